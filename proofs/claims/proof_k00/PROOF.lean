import PyProof.Rows.All
import Wide.All
import OpenK.AllK
import Wide.FinOn
import HandS.ForMost
import HandS.Defaults
import HandS.Star
import HandS.Gcd
import HandS.Wide
import HandS.HeadHook4
import HandS.NoneIn
import HandS.IsInst
import HandS.Zip
import HandS.HeadEnd
import HandS.Head3
import HandS.Property
import HandS.EndTab
import HandS.MakeKw
import HandS.MakeKwOnly
import HandS.More
import HandS.ClsMeth
import KE.GoesNew
import KE.GoesMore
import HandS.HotCalls
import HandS.ExcInit
import HandS.ExcInitHot
import HandS.ExcCtx
import HandS.ExcField
import HandS.ExcOwn
import KE.KExcIs
import HandS.Text
import HandS.StrMore
import HandS.FStr
import HandS.Style
import HandS.WideBits
import HandS.Lambda
import HandS.SortKw
import KE.SortKeyHeap
import KE.IntTextText
import PyProof.StrOps2
import PySem.Challenge.RW_bandheld_k00_amounts_reckoned
set_option Elab.async false
set_option linter.all false
set_option maxRecDepth 100000
set_option maxHeartbeats 1000000
/-! The layer over the hand layer: what is kept from heap to heap, amounts as rational numbers, readings step by step. -/
namespace Yk
open PySem PySem.Spec PyProof.Rows L2

/-! ### what is kept: all that is tracked, but what stands at S -/
def Ext (S : List Addr) (H H' : Hp) : Prop := ∀ a o, H a = some o → a ∉ S → H' a = some o
theorem Ext.refl {S : List Addr} {H : Hp} : Ext S H H := fun _ _ h _ => h
theorem Ext.trans {S : List Addr} {H H1 H2 : Hp} (a : Ext S H H1) (b : Ext S H1 H2) : Ext S H H2 := fun x o h n => b x o (a x o h n) n
theorem Ext.mono {S T : List Addr} {H H1 : Hp} (a : Ext S H H1) (h : ∀ x ∈ S, x ∈ T) : Ext T H H1 := fun x o e n => a x o e fun z => n (h x z)
theorem Ext.of0 {T : List Addr} {H H1 : Hp} (a : Ext [] H H1) : Ext T H H1 := a.mono fun _ z => nomatch z
theorem Ext.new {S : List Addr} {H H1 : Hp} {p : Addr} {o : HO} (e : Ext S H H1) (h : H1 p = none) : Ext S H (upd H1 p o) := fun a u ha n => by
  have h1 := e a u ha n
  rw [upd_ne (ne_of_none h1 h)]
  exact h1
theorem Ext.at_ {S : List Addr} {H H1 : Hp} {p : Addr} {o : HO} (e : Ext S H H1) (h : p ∈ S) : Ext S H (upd H1 p o) := fun a u ha n => by
  have h1 : a ≠ p := fun z => n (by rw [z]; exact h)
  rw [upd_ne h1]
  exact e a u ha n
/-- what is new to H may change -/
theorem Ext.own {S : List Addr} {H H1 : Hp} {p : Addr} {o : HO} (e : Ext S H H1) (h : H p = none) : Ext S H (upd H1 p o) := fun a u ha n => by
  rw [upd_ne (ne_of_none ha h)]
  exact e a u ha n
theorem Ext.free {H H1 : Hp} (e : Ext [] H H1) {p : Addr} (h : H1 p = none) : H p = none := by
  cases h1 : H p with
  | none => rfl
  | some o =>
    rw [e p o h1 (fun z => nomatch z)] at h
    cases h
theorem Ext.freeS {S : List Addr} {H H1 : Hp} (e : Ext S H H1) {p : Addr} (h : H1 p = none) (hs : ∀ a ∈ S, H1 a ≠ none) : H p = none := by
  cases h1 : H p with
  | none => rfl
  | some o =>
    rw [e p o h1 (fun z => hs p z h)] at h
    cases h

/-- the tuple at a, the list at a, carried on -/
theorem tupX {S : List Addr} {K : PySem.W.Frag} {H H1 : Hp} {a : Addr} {xs : List V} (e : Ext S H H1) (h : SqT K H a xs) (hs : ∀ b ∈ S, ∃ l, H b = some (.lst l)) : SqT K H1 a xs := by
  rcases h with (h | ⟨o, h⟩) | h
  · exact .inl (.inl (e a _ h fun z => by obtain ⟨l, q⟩ := hs a z; rw [h] at q; cases q))
  · exact .inl (.inr ⟨o, e a _ h fun z => by obtain ⟨l, q⟩ := hs a z; rw [h] at q; cases q⟩)
  · exact .inr h
theorem tup0 {K : PySem.W.Frag} {H H1 : Hp} {a : Addr} {xs : List V} (e : Ext [] H H1) (h : SqT K H a xs) : SqT K H1 a xs := tupX e h fun _ z => nomatch z
theorem tupN {K : PySem.W.Frag} {H : Hp} {a p : Addr} {o : HO} {xs : List V} (h : SqT K H a xs) (hp : H p = none) : SqT K (upd H p o) a xs := tup0 (Ext.refl.new hp) h
theorem tupW {K : PySem.W.Frag} {H : Hp} {a p : Addr} {l l' : List V} {xs : List V} (h : SqT K H a xs) (hp : H p = some (.lst l)) : SqT K (upd H p (.lst l')) a xs :=
  tupX (S := [p]) (Ext.refl.at_ List.mem_cons_self) h fun b hb => by rw [List.mem_singleton.mp hb]; exact ⟨l, hp⟩
theorem tupS {K : PySem.W.Frag} {H : Hp} {p : Addr} {xs : List V} : SqT K (upd H p (.tup xs)) p xs := .inl (.inl upd_same)
theorem lstX {S : List Addr} {K : PySem.W.Frag} {H H1 : Hp} {a : Addr} {xs : List V} (e : Ext S H H1) (h : SqL K H a xs) (hs : a ∉ S) : SqL K H1 a xs := by
  rcases h with (h | ⟨o, h⟩) | h
  · exact .inl (.inl (e a _ h hs))
  · exact .inl (.inr ⟨o, e a _ h hs⟩)
  · exact .inr h
theorem lst0 {K : PySem.W.Frag} {H H1 : Hp} {a : Addr} {xs : List V} (e : Ext [] H H1) (h : SqL K H a xs) : SqL K H1 a xs := lstX e h fun z => nomatch z
theorem lstN {K : PySem.W.Frag} {H : Hp} {a p : Addr} {o : HO} {xs : List V} (h : SqL K H a xs) (hp : H p = none) : SqL K (upd H p o) a xs := lst0 (Ext.refl.new hp) h
theorem lstS {K : PySem.W.Frag} {H : Hp} {p : Addr} {xs : List V} : SqL K (upd H p (.lst xs)) p xs := .inl (.inl upd_same)

/-! ### a def by its name -/
section
variable (P : Program) (w : World) (K : PySem.W.Frag) (mg : Str → Option Value) (base : Heap)
structure Fn (k : Nat) (x : Str) (sp : Sp) : Prop where
  run : ∃ f, mg x = some (.ref f) ∧ PySem.W.keepIn K (.ref f) = true ∧ FnR P w K mg base CX0 k f sp
end
section
variable {X : Cx} {k : Nat} {sp : Sp} {x : Str} {p pos : Pos} {e : Expr} {es : List Expr} {t : TA}
def tR (sp : Sp) (t : TA) : TE := fun σ H Q => t σ H fun vs H1 => sp vs H1 Q E0
theorem pe_fn (F : Fn X.prog X.w X.K X.mg X.base k x sp) (hr : Room k X.A) (ha : PA X (e :: es) t) (hg : Gl X x := by rfl) (hdb : (x == ("__debug__" : Str)) = false := by decide)
    (hx : Passes CX0 X E0 := by exact pass0)
    (he : starEach (e :: es) X.env = (false, eval e X.env) :: starEach es X.env := by rfl) (hpl : (backTo pos (starEach es X.env)).any (·.1) = false := by rfl) :
    PE X (.Call (.Name x p) (e :: es) [] pos) (tR sp t) := by
  obtain ⟨f, hm, hk, F⟩ := F.run
  refine ⟨fun pins s σ H Q I h => ?_⟩
  refine wpAny_Call_Name_kw (ld_glob I hg hm ?_ hdb)
  refine PySem.W.callWith_K (h₀ := X.base) I.ok.mod.kin hk (thn (ha.run pos pins s σ H _ I h) fun us s1 ⟨vs, H1, I1, r, q⟩ => ⟨I1.kIn, ?_⟩) he hpl
  exact wpAny_call (run_fnR F hr hx I1 r q)
theorem Fn.mono {P : Program} {w : World} {K : PySem.W.Frag} {mg : Str → Option Value} {base : Heap} {j k : Nat} {x : Str} {sp : Sp} (F : Fn P w K mg base j x sp) (h : j ≤ k) : Fn P w K mg base k x sp := by
  obtain ⟨f, hm, hk, F⟩ := F.run
  exact ⟨f, hm, hk, F.mono h⟩
end
/-- how a def of the text keeps a promise -/
theorem fn_def {P : Program} {w : World} {K : PySem.W.Frag} {mg : Str → Option Value} {base : Heap} {x : Str} {params : Arguments} {body : List Stmt} {scope : Scope} {f : Addr} {fd : FuncData} {N ps : List Str} {k : Nat} {sp : Sp}
    (F : FunD K x x params body scope [] [] f fd) (hm : mg x = some (.ref f)) (S : FnScope N ps scope) (len : ∀ vs H Q E, sp vs H Q E → vs.length = ps.length)
    (hb : ∀ (kV doc pm : Value) (an : Option Addr) (cdv ct : Value) (us : List Value), us.length = ps.length → bindArgs (PySem.W.fnOf x x params body scope .none kV doc pm an cdv ct) ⟨us, []⟩ = pure (ps.zip us))
    (hbody : ∀ (cdv : Value) (A : Around) (outer : List Env) (s : Shared) (H : Hp) (vs : List V) (Q : VK) (E : XK), Room k (A.deeper (envOfC x scope s.heap.objs.size f cdv)) → sp vs H Q E →
      ∃ t, PSs (cxOf CX0 P w K mg base N x scope f cdv A outer s H E).nox body t ∧ t ⟨fun _ H' => Q .non H', Q, fun _ _ => False, fun _ _ => False⟩ (start N vs) H) : Fn P w K mg base (k + 1) x sp := by
  have G : FnOk P w K mg base CX0 (k + 1) f fd ps sp := F.ok S len fun cdv A outer s H vs Q E hr h => by
    obtain ⟨t, h1, h2⟩ := hbody cdv A outer s H vs Q E hr h
    exact ⟨t, h1.nox, h2⟩
  have b := F.bindsN hb
  have R := G.raw b .nil
  refine ⟨f, hm, F.kp, R.imp fun vs H Q E h => ?_⟩
  rw [List.append_nil]
  exact h

/-! ### len, list by names -/
def rLn (K : PySem.W.Frag) : List V → Hp → VK → Prop := fun xs H Q => ∃ p ys, xs = [.ref p] ∧ (SqL K H p ys ∨ SqT K H p ys) ∧ Q (.int ys.length) H
def rLs (K : PySem.W.Frag) : List V → Hp → VK → Prop := fun xs H Q => ∃ p ys, xs = [.ref p] ∧ (SqL K H p ys ∨ SqT K H p ys) ∧ ∀ l, H l = none → Q (.ref l) (upd H l (.lst ys))
section
variable {X : Cx}
theorem cr_len : CallR X (.builtin "len") (rLn X.K) := call_len_seq
theorem cr_list : CallR X (.type "list") (rLs X.K) := call_list_of
end
/-! ### readings, one step each -/
section
variable {nx : L2.St → Hp → Prop} {rt : VK} {bk ct : L2.St → Hp → Prop} {σ : L2.St} {H : Hp} {K : PySem.W.Frag} {Q : VK} {t u : TS} {te ta tb : TE} {g : TG} {c : TT} {v x y : V}
theorem r_seq (h : t ⟨u ⟨nx, rt, bk, ct⟩, rt, bk, ct⟩ σ H) : tSeq t u ⟨nx, rt, bk, ct⟩ σ H := h
theorem r_next (h : nx σ H) : tNext ⟨nx, rt, bk, ct⟩ σ H := h
theorem r_asg (h : te σ H fun x H1 => g x σ H1 nx) : tAsg te g ⟨nx, rt, bk, ct⟩ σ H := h
theorem r_ret (h : te σ H rt) : tRet te ⟨nx, rt, bk, ct⟩ σ H := h
theorem r_drop (h : te σ H fun _ H1 => nx σ H1) : tDrop te ⟨nx, rt, bk, ct⟩ σ H := h
theorem r_ifS (h : c σ H fun b H1 => if b = true then t ⟨nx, rt, bk, ct⟩ σ H1 else u ⟨nx, rt, bk, ct⟩ σ H1) : tIfS c t u ⟨nx, rt, bk, ct⟩ σ H := h
theorem r_par {i j : Nat} {ta : TA} (h : ta σ H fun vs H1 => ∃ v w, vs = [v, w] ∧ nx ((σ.set i (some v)).set j (some w)) H1) : tPar i j ta ⟨nx, rt, bk, ct⟩ σ H := h
theorem r_name {i : Nat} {R : L2.St → Hp → Prop} (h : R (σ.set i (some v)) H) : gName i v σ H R := h
theorem r_gTup {n : Nat} {ts : TGs} {a : Addr} {xs : List V} {R : L2.St → Hp → Prop} (h1 : SqT K H a xs) (h2 : xs.length = n) (h : ts xs σ H R) : gTup K n ts (.ref a) σ H R := ⟨a, xs, rfl, h1, h2, h⟩
theorem r_gCons {ts : TGs} {vs : List V} {R : L2.St → Hp → Prop} (h : g v σ H fun σ' H' => ts vs σ' H' R) : gCons g ts (v :: vs) σ H R := ⟨v, vs, rfl, h⟩
theorem r_gNil {R : L2.St → Hp → Prop} (h : R σ H) : gNil [] σ H R := ⟨rfl, h⟩
theorem r_gSub {to ti : TE} {ts : TSet} {R : L2.St → Hp → Prop} (h : to σ H fun o H1 => ti σ H1 fun i H2 => ts o i v H2 fun H3 => R σ H3) : gSub to ti ts v σ H R := h
theorem r_var {i : Nat} (h1 : σ[i]? = some (some v)) (h : Q v H) : tVar i σ H Q := ⟨v, h1, h⟩
theorem r_c (h : Q v H) : tC v σ H Q := h
theorem r_op {r : R2} (h : ta σ H fun x H1 => tb σ H1 fun y H2 => r x y H2 Q) : tOp r ta tb σ H Q := h
theorem r_un {r : V → Hp → VK → Prop} (h : ta σ H fun x H1 => r x H1 Q) : tUn r ta σ H Q := h
theorem r_I0 {f : Int → Int → V} {i j : Int} (h : Q (f i j) H) : rI0 f (.int i) (.int j) H Q := ⟨i, j, rfl, rfl, h⟩
theorem r_I {C : Int → Int → Prop} {f : Int → Int → V} {i j : Int} (hc : C i j) (h : Q (f i j) H) : rI C f (.int i) (.int j) H Q := ⟨i, j, rfl, rfl, hc, h⟩
theorem r_U {f : Int → V} {i : Int} (h : Q (f i) H) : rU f (.int i) H Q := ⟨i, rfl, h⟩
theorem r_ixT {p : Addr} {xs : List V} {i : Int} (h1 : SqT K H p xs) (h2 : atI xs i = some v) (h : Q v H) : rIxT K (.ref p) (.int i) H Q := ⟨p, xs, i, v, rfl, rfl, h1, h2, h⟩
theorem r_ixL {p : Addr} {xs : List V} {i : Int} (h1 : SqL K H p xs) (h2 : atI xs i = some v) (h : Q v H) : rIxL K (.ref p) (.int i) H Q := ⟨p, xs, i, v, rfl, rfl, h1, h2, h⟩
theorem r_cons {t : TA} {R : List V → Hp → Prop} (h : ta σ H fun x H1 => t σ H1 fun xs H2 => R (x :: xs) H2) : tCons ta t σ H R := h
theorem r_nil {R : List V → Hp → Prop} (h : R [] H) : tNil σ H R := h
theorem r_tup {t : TA} (h : t σ H fun xs H1 => xs.length ≤ sizeLine ∧ ∀ p, H1 p = none → Q (.ref p) (upd H1 p (.tup xs))) : tTup t σ H Q := h
theorem r_lst {t : TA} (h : t σ H fun xs H1 => xs.length ≤ sizeLine ∧ ∀ p, H1 p = none → Q (.ref p) (upd H1 p (.lst xs))) : tLst t σ H Q := h
theorem r_CB {r : List V → Hp → VK → Prop} {t : TA} (h : t σ H fun vs H1 => r vs H1 Q) : tCB r t σ H Q := h
theorem r_R {sp : Sp} {t : TA} (h : t σ H fun vs H1 => sp vs H1 Q E0) : tR sp t σ H Q := h
theorem r_gcd {a b : Int} (h : Q (.int ((Nat.gcd a.natAbs b.natAbs : Nat) : Int)) H) : rGcd [.int a, .int b] H Q := ⟨a, b, rfl, h⟩
theorem r_test {R : Bool → Hp → Prop} (h : te σ H fun x H' => ∃ k, x = .bl k ∧ R k H') : tTest te σ H R := h
theorem r_B {R : Bool → Hp → Prop} (h : te σ H fun x H' => ∃ k, x = .bl k ∧ R k H') : tB te σ H R := h
theorem r_bl {b : Bool} {R : Bool → Prop} (h : R b) : ∃ k, V.bl b = .bl k ∧ R k := ⟨b, rfl, h⟩
theorem r_if (h : c σ H fun b H1 => if b = true then ta σ H1 Q else tb σ H1 Q) : tIf c ta tb σ H Q := h
theorem r_and {d : TT} {R : Bool → Hp → Prop} (h : c σ H fun b H1 => if b = true then d σ H1 R else R false H1) : tAnd c d σ H R := h
theorem r_or {d : TT} {R : Bool → Hp → Prop} (h : c σ H fun b H1 => if b = true then R true H1 else d σ H1 R) : tOr c d σ H R := h
theorem r_not {R : Bool → Hp → Prop} (h : c σ H fun b H1 => R (!b) H1) : tNot c σ H R := h
theorem r_eq (hs : scal x y = true) (h : Q (.bl (decide (x = y))) H) : rEq x y H Q := ⟨hs, h⟩
theorem r_ne (hs : scal x y = true) (h : Q (.bl (!decide (x = y))) H) : rNe x y H Q := ⟨hs, h⟩
theorem r_dec {p : Prop} [Decidable p] {A B : Prop} (h1 : p → A) (h2 : ¬ p → B) : if decide p = true then A else B := by
  by_cases hp : p
  · rw [decide_eq_true hp, if_pos rfl]; exact h1 hp
  · rw [decide_eq_false hp, if_neg (by decide)]; exact h2 hp
theorem r_forT {i : Nat} {a : Addr} {xs : List V} (h1 : σ[i]? = some (some (.ref a))) (h2 : SqT K H a xs) (Pv : Nat → L2.St → Hp → Prop) (h0 : Pv 0 σ H) (hl : ∀ i σ H, i ≤ xs.length → Pv i σ H → SqT K H a xs)
    (hs : ∀ i x σ H, xs[i]? = some x → Pv i σ H → g x σ H fun σ2 H2 => t ⟨Pv (i + 1), rt, nx, Pv (i + 1)⟩ σ2 H2) (hd : ∀ σ H, Pv xs.length σ H → nx σ H) : tFor (iTup K (tVar i)) g t ⟨nx, rt, bk, ct⟩ σ H :=
  ⟨_, h1, a, rfl, ⟨xs, h2⟩, for_tup Pv h0 hl hs hd⟩
theorem r_forL {i : Nat} {a : Addr} {xs : List V} (h1 : σ[i]? = some (some (.ref a))) (h2 : SqL K H a xs) (Pv : Nat → L2.St → Hp → Prop) (h0 : Pv 0 σ H) (hl : ∀ i σ H, i ≤ xs.length → Pv i σ H → SqL K H a xs)
    (hs : ∀ i x σ H, xs[i]? = some x → Pv i σ H → g x σ H fun σ2 H2 => t ⟨Pv (i + 1), rt, nx, Pv (i + 1)⟩ σ2 H2) (hd : ∀ σ H, Pv xs.length σ H → nx σ H) : tFor (iList K (tVar i)) g t ⟨nx, rt, bk, ct⟩ σ H :=
  ⟨_, h1, a, rfl, ⟨xs, h2⟩, for_list Pv h0 hl hs hd⟩
theorem r_for {wi : TI} (h : wi σ H fun J H1 => ∃ W : Nat → Nat → L2.St → Hp → Prop, (∃ m, W 0 m σ H1) ∧ ∀ i m σ H, W i m σ H →
  (J.stop i H ∧ nx σ H) ∨ (J.go i H ∧ ∃ N : L2.St → Hp → Prop, (∀ σ' H', N σ' H' → ∃ m', m' < m ∧ W (i + 1) m' σ' H') ∧ ∀ x H', J.yld i H x H' → g x σ H' fun σ2 H2 => t ⟨N, rt, nx, N⟩ σ2 H2)) : tFor wi g t ⟨nx, rt, bk, ct⟩ σ H := h
theorem r_iList {tl : TE} {R : It → Hp → Prop} (h : tl σ H fun x H1 => ∃ a, x = .ref a ∧ (∃ xs, SqL K H1 a xs) ∧ R (Itl K a) H1) : iList K tl σ H R := h
theorem r_iTup {tl : TE} {R : It → Hp → Prop} (h : tl σ H fun x H1 => ∃ a, x = .ref a ∧ (∃ xs, SqT K H1 a xs) ∧ R (Itt K a) H1) : iTup K tl σ H R := h
theorem r_iRng1 {ta : TA} {R : It → Hp → Prop} (h : ta σ H fun vs H1 => ∃ j : Int, vs = [.int j] ∧ -(2 ^ 62) ≤ j ∧ j < 2 ^ 62 ∧ R (Itr 0 j.toNat) H1) : iRng1 ta σ H R := h
theorem r_loopL {a : Addr} {xs : List V} (Pv : Nat → L2.St → Hp → Prop) (h0 : Pv 0 σ H) (hl : ∀ i σ H, i ≤ xs.length → Pv i σ H → SqL K H a xs)
    (hs : ∀ i x σ H, xs[i]? = some x → Pv i σ H → g x σ H fun σ2 H2 => t ⟨Pv (i + 1), rt, nx, Pv (i + 1)⟩ σ2 H2) (hd : ∀ σ H, Pv xs.length σ H → nx σ H) :
    ∃ W : Nat → Nat → L2.St → Hp → Prop, (∃ m, W 0 m σ H) ∧ ∀ i m σ H, W i m σ H →
      ((Itl K a).stop i H ∧ nx σ H) ∨ ((Itl K a).go i H ∧ ∃ N : L2.St → Hp → Prop, (∀ σ' H', N σ' H' → ∃ m', m' < m ∧ W (i + 1) m' σ' H') ∧ ∀ x H', (Itl K a).yld i H x H' → g x σ H' fun σ2 H2 => t ⟨N, rt, nx, N⟩ σ2 H2) :=
  for_list (D := ⟨nx, rt, nx, nx⟩) Pv h0 hl hs hd
theorem r_loopT {a : Addr} {xs : List V} (Pv : Nat → L2.St → Hp → Prop) (h0 : Pv 0 σ H) (hl : ∀ i σ H, i ≤ xs.length → Pv i σ H → SqT K H a xs)
    (hs : ∀ i x σ H, xs[i]? = some x → Pv i σ H → g x σ H fun σ2 H2 => t ⟨Pv (i + 1), rt, nx, Pv (i + 1)⟩ σ2 H2) (hd : ∀ σ H, Pv xs.length σ H → nx σ H) :
    ∃ W : Nat → Nat → L2.St → Hp → Prop, (∃ m, W 0 m σ H) ∧ ∀ i m σ H, W i m σ H →
      ((Itt K a).stop i H ∧ nx σ H) ∨ ((Itt K a).go i H ∧ ∃ N : L2.St → Hp → Prop, (∀ σ' H', N σ' H' → ∃ m', m' < m ∧ W (i + 1) m' σ' H') ∧ ∀ x H', (Itt K a).yld i H x H' → g x σ H' fun σ2 H2 => t ⟨N, rt, nx, N⟩ σ2 H2) :=
  for_tup (D := ⟨nx, rt, nx, nx⟩) Pv h0 hl hs hd
theorem r_loopR {lo : Int} {n : Nat} (Pv : Nat → L2.St → Hp → Prop) (h0 : Pv 0 σ H)
    (hs : ∀ i σ H, i < n → Pv i σ H → g (.int (lo + i)) σ H fun σ2 H2 => t ⟨Pv (i + 1), rt, nx, Pv (i + 1)⟩ σ2 H2) (hd : ∀ σ H, Pv n σ H → nx σ H) :
    ∃ W : Nat → Nat → L2.St → Hp → Prop, (∃ m, W 0 m σ H) ∧ ∀ i m σ H, W i m σ H →
      ((Itr lo n).stop i H ∧ nx σ H) ∨ ((Itr lo n).go i H ∧ ∃ N : L2.St → Hp → Prop, (∀ σ' H', N σ' H' → ∃ m', m' < m ∧ W (i + 1) m' σ' H') ∧ ∀ x H', (Itr lo n).yld i H x H' → g x σ H' fun σ2 H2 => t ⟨N, rt, nx, N⟩ σ2 H2) :=
  for_range (D := ⟨nx, rt, nx, nx⟩) Pv h0 hs hd
theorem r_gUnl {n : Nat} {ts : TGs} {a : Addr} {xs : List V} {R : L2.St → Hp → Prop} (h1 : SqL K H a xs) (h2 : xs.length = n) (h : ts xs σ H R) : gUnl K n ts (.ref a) σ H R := ⟨a, xs, rfl, h1, h2, h⟩
theorem r_BM {T : String} {r : V → List V → Hp → VK → Prop} {to : TE} {ta : TA} (h : to σ H fun x H1 => tyV K T x H1 ∧ ta σ H1 fun xs H2 => r x xs H2 Q) : tBM K T r to ta σ H Q := h
theorem r_BM0 {T : String} {r : V → List V → Hp → VK → Prop} {to : TE} (h : to σ H fun x H1 => tyV K T x H1 ∧ r x [] H1 Q) : tBM0 K T r to σ H Q := h
theorem r_lc {wi : TI} {g : TG} {tt : TT} {te : TE} {vs : List Nat} (h : wi σ H fun J H1 => ∀ D, H1 D = none → ∃ W : Nat → Nat → Hp → Prop, (∃ m, W 0 m (upd H1 D (.lst []))) ∧ ∀ i m H, W i m H →
  (J.stop i H ∧ Q (.ref D) H) ∨ (J.go i H ∧ ∃ Nx : Hp → Prop, (∀ H', Nx H' → ∃ m', m' < m ∧ W (i + 1) m' H') ∧ ∀ x H', J.yld i H x H' → g x (wipe σ vs) H' fun σ2 H2 => wipe σ2 vs = wipe σ vs ∧ tt σ2 H2 fun b H3 =>
    if b = true then te σ2 H3 fun y H4 => ∃ acc, H4 D = some (.lst acc) ∧ acc.length < sizeLine ∧ Nx (upd H4 D (.lst (acc ++ [y]))) else Nx H3)) : tLc wi g tt te vs σ H Q := h
theorem r_yes {R : Bool → Hp → Prop} (h : R true H) : tYes σ H R := h
theorem r_tt {A B : Prop} (h : A) : if true = true then A else B := by rw [if_pos rfl]; exact h
theorem r_popAt {l : Addr} {xs : List V} {i : Int} {k : Nat} {y : V} (h1 : H l = some (.lst xs)) (h2 : i = (k : Int)) (h3 : xs[k]? = some y) (h4 : xs.length ≤ 4000) (h : Q y (upd H l (.lst (xs.eraseIdx k)))) : rPopAt (.ref l) [.int i] H Q := by
  have hk : k < xs.length := (List.getElem?_eq_some_iff.mp h3).1
  have e : ixN xs.length i = some k := by
    unfold ixN
    rw [if_pos (by omega), if_pos (by omega), h2, Int.toNat_natCast]
  exact ⟨l, xs, i, k, y, rfl, rfl, h1, by omega, by omega, (ixN_seq e).1, h3, h⟩
theorem r_lcR {lo : Int} {n : Nat} {g : TG} {tt : TT} {te : TE} {vs : List Nat} {D : Addr} {Qd : Hp → Prop} (Pv : Nat → Hp → Prop) (h0 : Pv 0 (upd H D (.lst [])))
    (hs : ∀ i H, i < n → Pv i H → g (.int (lo + i)) (wipe σ vs) H fun σ2 H2 => wipe σ2 vs = wipe σ vs ∧ tt σ2 H2 fun b H3 =>
      if b = true then te σ2 H3 fun y H4 => ∃ acc, H4 D = some (.lst acc) ∧ acc.length < sizeLine ∧ Pv (i + 1) (upd H4 D (.lst (acc ++ [y]))) else Pv (i + 1) H3) (hd : ∀ H, Pv n H → Qd H) :
    ∃ W : Nat → Nat → Hp → Prop, (∃ m, W 0 m (upd H D (.lst []))) ∧ ∀ i m H, W i m H →
      ((Itr lo n).stop i H ∧ Qd H) ∨ ((Itr lo n).go i H ∧ ∃ Nx : Hp → Prop, (∀ H', Nx H' → ∃ m', m' < m ∧ W (i + 1) m' H') ∧ ∀ x H', (Itr lo n).yld i H x H' → g x (wipe σ vs) H' fun σ2 H2 => wipe σ2 vs = wipe σ vs ∧ tt σ2 H2 fun b H3 =>
        if b = true then te σ2 H3 fun y H4 => ∃ acc, H4 D = some (.lst acc) ∧ acc.length < sizeLine ∧ Nx (upd H4 D (.lst (acc ++ [y]))) else Nx H3) :=
  lc_range (Qd := Qd) Pv h0 hs hd
theorem r_lcL {a : Addr} {xs : List V} {g : TG} {tt : TT} {te : TE} {vs : List Nat} {D : Addr} {Qd : Hp → Prop} (Pv : Nat → Hp → Prop) (h0 : Pv 0 (upd H D (.lst []))) (hl : ∀ i H, i ≤ xs.length → Pv i H → SqL K H a xs)
    (hs : ∀ i x H, xs[i]? = some x → Pv i H → g x (wipe σ vs) H fun σ2 H2 => wipe σ2 vs = wipe σ vs ∧ tt σ2 H2 fun b H3 =>
      if b = true then te σ2 H3 fun y H4 => ∃ acc, H4 D = some (.lst acc) ∧ acc.length < sizeLine ∧ Pv (i + 1) (upd H4 D (.lst (acc ++ [y]))) else Pv (i + 1) H3) (hd : ∀ H, Pv xs.length H → Qd H) :
    ∃ W : Nat → Nat → Hp → Prop, (∃ m, W 0 m (upd H D (.lst []))) ∧ ∀ i m H, W i m H →
      ((Itl K a).stop i H ∧ Qd H) ∨ ((Itl K a).go i H ∧ ∃ Nx : Hp → Prop, (∀ H', Nx H' → ∃ m', m' < m ∧ W (i + 1) m' H') ∧ ∀ x H', (Itl K a).yld i H x H' → g x (wipe σ vs) H' fun σ2 H2 => wipe σ2 vs = wipe σ vs ∧ tt σ2 H2 fun b H3 =>
        if b = true then te σ2 H3 fun y H4 => ∃ acc, H4 D = some (.lst acc) ∧ acc.length < sizeLine ∧ Nx (upd H4 D (.lst (acc ++ [y]))) else Nx H3) :=
  lc_list (Qd := Qd) Pv h0 hl hs hd
theorem r_true {c : Bool} {A B : Prop} (hc : c = true) (h : A) : if c = true then A else B := by rw [if_pos hc]; exact h
theorem r_false {c : Bool} {A B : Prop} (hc : c = false) (h : B) : if c = true then A else B := by rw [hc, if_neg (by decide)]; exact h
theorem len_is {n : Nat} {k : Int} (h : (n : Int) = k) : decide (V.int (n : Int) = V.int k) = true := decide_eq_true (by rw [h])
theorem len_not {n : Nat} {k : Int} (h : (n : Int) ≠ k) : decide (V.int (n : Int) = V.int k) = false := decide_eq_false fun z => h (V.int.inj z)
theorem r_lcZL {a b : Addr} {xs ys : List V} {g : TG} {tt : TT} {te : TE} {vs : List Nat} {D : Addr} {Qd : Hp → Prop} (hl : xs.length = ys.length) (Pv : Nat → Hp → Prop) (h0 : Pv 0 (upd H D (.lst []))) (hq : ∀ i H, Pv i H → SqL K H a xs ∧ SqL K H b ys)
    (hs : ∀ (i : Nat) (x y : V) (T : Addr) (H : Hp), xs[i]? = some x → ys[i]? = some y → Pv i H → H T = none → g (.ref T) (wipe σ vs) (upd H T (.tup [x, y])) fun σ2 H2 => wipe σ2 vs = wipe σ vs ∧ tt σ2 H2 fun b H3 =>
      if b = true then te σ2 H3 fun y H4 => ∃ acc, H4 D = some (.lst acc) ∧ acc.length < sizeLine ∧ Pv (i + 1) (upd H4 D (.lst (acc ++ [y]))) else Pv (i + 1) H3) (hd : ∀ H, Pv xs.length H → Qd H) :
    ∃ W : Nat → Nat → Hp → Prop, (∃ m, W 0 m (upd H D (.lst []))) ∧ ∀ i m H, W i m H →
      ((Itz K a b).stop i H ∧ Qd H) ∨ ((Itz K a b).go i H ∧ ∃ Nx : Hp → Prop, (∀ H', Nx H' → ∃ m', m' < m ∧ W (i + 1) m' H') ∧ ∀ x H', (Itz K a b).yld i H x H' → g x (wipe σ vs) H' fun σ2 H2 => wipe σ2 vs = wipe σ vs ∧ tt σ2 H2 fun b H3 =>
        if b = true then te σ2 H3 fun y H4 => ∃ acc, H4 D = some (.lst acc) ∧ acc.length < sizeLine ∧ Nx (upd H4 D (.lst (acc ++ [y]))) else Nx H3) := by
  refine ⟨fun i m H => m = xs.length - i ∧ i ≤ xs.length ∧ Pv i H, ⟨xs.length, rfl, Nat.zero_le _, h0⟩, ?_⟩
  rintro i m H ⟨rfl, hi, p⟩
  obtain ⟨qx, qy⟩ := hq i H p
  by_cases hlt : i < xs.length
  · have hx : xs[i]? = some xs[i] := List.getElem?_eq_getElem hlt
    have hlt2 : i < ys.length := by omega
    have hy : ys[i]? = some ys[i] := List.getElem?_eq_getElem hlt2
    refine .inr ⟨⟨xs, ys, _, _, qx, qy, hx, hy⟩, Pv (i + 1), fun H' p' => ⟨xs.length - (i + 1), by omega, rfl, hlt, p'⟩, fun v H' y => ?_⟩
    obtain ⟨T, x', y', rfl, hT, rfl, f1, f2⟩ := y
    exact hs i x' y' T _ (f1 xs qx) (f2 ys qy) p hT
  · have e : i = xs.length := by omega
    subst e
    exact .inl ⟨⟨xs, ys, qx, qy, .inl (Nat.le_refl _)⟩, hd H p⟩
theorem r_lcZT {a b : Addr} {xs ys : List V} {g : TG} {tt : TT} {te : TE} {vs : List Nat} {D : Addr} {Qd : Hp → Prop} (hl : xs.length = ys.length) (Pv : Nat → Hp → Prop) (h0 : Pv 0 (upd H D (.lst []))) (hq : ∀ i H, Pv i H → SqT K H a xs ∧ SqT K H b ys)
    (hs : ∀ (i : Nat) (x y : V) (T : Addr) (H : Hp), xs[i]? = some x → ys[i]? = some y → Pv i H → H T = none → g (.ref T) (wipe σ vs) (upd H T (.tup [x, y])) fun σ2 H2 => wipe σ2 vs = wipe σ vs ∧ tt σ2 H2 fun b H3 =>
      if b = true then te σ2 H3 fun y H4 => ∃ acc, H4 D = some (.lst acc) ∧ acc.length < sizeLine ∧ Pv (i + 1) (upd H4 D (.lst (acc ++ [y]))) else Pv (i + 1) H3) (hd : ∀ H, Pv xs.length H → Qd H) :
    ∃ W : Nat → Nat → Hp → Prop, (∃ m, W 0 m (upd H D (.lst []))) ∧ ∀ i m H, W i m H →
      ((RZ.ItzT K a b).stop i H ∧ Qd H) ∨ ((RZ.ItzT K a b).go i H ∧ ∃ Nx : Hp → Prop, (∀ H', Nx H' → ∃ m', m' < m ∧ W (i + 1) m' H') ∧ ∀ x H', (RZ.ItzT K a b).yld i H x H' → g x (wipe σ vs) H' fun σ2 H2 => wipe σ2 vs = wipe σ vs ∧ tt σ2 H2 fun b H3 =>
        if b = true then te σ2 H3 fun y H4 => ∃ acc, H4 D = some (.lst acc) ∧ acc.length < sizeLine ∧ Nx (upd H4 D (.lst (acc ++ [y]))) else Nx H3) := by
  refine ⟨fun i m H => m = xs.length - i ∧ i ≤ xs.length ∧ Pv i H, ⟨xs.length, rfl, Nat.zero_le _, h0⟩, ?_⟩
  rintro i m H ⟨rfl, hi, p⟩
  obtain ⟨qx, qy⟩ := hq i H p
  by_cases hlt : i < xs.length
  · have hx : xs[i]? = some xs[i] := List.getElem?_eq_getElem hlt
    have hlt2 : i < ys.length := by omega
    have hy : ys[i]? = some ys[i] := List.getElem?_eq_getElem hlt2
    refine .inr ⟨⟨xs, ys, _, _, qx, qy, hx, hy⟩, Pv (i + 1), fun H' p' => ⟨xs.length - (i + 1), by omega, rfl, hlt, p'⟩, fun v H' y => ?_⟩
    obtain ⟨T, x', y', rfl, hT, rfl, f1, f2⟩ := y
    exact hs i x' y' T _ (f1 xs qx) (f2 ys qy) p hT
  · have e : i = xs.length := by omega
    subst e
    exact .inl ⟨⟨xs, ys, qx, qy, .inl (Nat.le_refl _)⟩, hd H p⟩
theorem tyT {a : Addr} {xs : List V} (h : SqT K H a xs) : TyX K H (.ref a) (.type "tuple") := by
  rcases h with (h | ⟨o, h⟩) | ⟨o, its, n, h, c, _⟩
  · exact .base (.tup h)
  · exact .fTuple h
  · exact .kTuple h c
theorem tyL {a : Addr} {xs : List V} (h : SqL K H a xs) : TyX K H (.ref a) (.type "list") := by
  rcases h with (h | ⟨o, h⟩) | ⟨o, its, n, h, c, _⟩
  · exact .base (.lst h)
  · exact .base (.frz h)
  · exact .kList h c
theorem r_isi {T c : String} {b : Bool} (ht : TyX K H x (.type T)) (he : PySem.W.kitOne K (.type T) (.type c) = some b) (h : Q (.bl b) H) : rIsi K [x, .ty c] H Q := ⟨x, .ty c, .type T, .type c, b, rfl, .ty c, ht, he, h⟩
theorem r_isiT {T c1 c2 : String} {b : Bool} {p : Addr} (hp : H p = some (.tup [.ty c1, .ty c2])) (ht : TyX K H x (.type T)) (he : PySem.W.kitAny K (.type T) [.type c1, .type c2] = some b) (h : Q (.bl b) H) : rIsiT K [x, .ref p] H Q :=
  ⟨x, p, [.ty c1, .ty c2], .type T, [.type c1, .type c2], b, rfl, hp, .cons (.ty c1) (.cons (.ty c2) .nil), ht, he, h⟩
theorem r_andV (h : ta σ H fun x H1 => ∃ c, x = .bl c ∧ if c = true then tb σ H1 Q else Q (.bl false) H1) : tAndV ta tb σ H Q := h
theorem r_orV (h : ta σ H fun x H1 => ∃ c, x = .bl c ∧ if c = true then Q (.bl true) H1 else tb σ H1 Q) : tOrV ta tb σ H Q := h
theorem r_notV (h : ta σ H fun x H1 => ∃ c, x = .bl c ∧ Q (.bl (!c)) H1) : tNotV ta σ H Q := h
theorem r_all {a : Addr} {bs : List Bool} (h1 : SqL K H a (bs.map V.bl)) (h : Q (.bl (bs.all id)) H) : rAll K [.ref a] H Q := ⟨a, bs, rfl, h1, h⟩
theorem r_any {a : Addr} {bs : List Bool} (h1 : SqL K H a (bs.map V.bl)) (h : Q (.bl (bs.any id)) H) : rAny K [.ref a] H Q := ⟨a, bs, rfl, h1, h⟩
theorem r_iZip {ta : TA} {R : It → Hp → Prop} (h : ta σ H fun vs H1 => ∃ a b xs ys, vs = [.ref a, .ref b] ∧ ((SqL K H1 a xs ∧ SqL K H1 b ys ∧ R (Itz K a b) H1) ∨ (SqT K H1 a xs ∧ SqT K H1 b ys ∧ R (RZ.ItzT K a b) H1))) : RZ.iZipA K ta σ H R := h
theorem r_while (W : Nat → L2.St → Hp → Prop) (m : Nat) (h0 : W m σ H) (hs : ∀ m σ H, W m σ H → c σ H fun b H1 => if b = true then ∃ N : L2.St → Hp → Prop, (∀ σ' H', N σ' H' → ∃ m', m' < m ∧ W m' σ' H') ∧ t ⟨N, rt, nx, N⟩ σ H1 else nx σ H1) : tWhile c t ⟨nx, rt, bk, ct⟩ σ H :=
  ⟨W, ⟨m, h0⟩, hs⟩
theorem r_slL {te : TE} {tl th : TO} {r : V → Option Int → Option Int → Hp → VK → Prop} (h : te σ H fun x H1 => tl σ H1 fun l H2 => th σ H2 fun u H3 => r x l u H3 Q) : tSl r te tl th σ H Q := h
theorem r_noP {R : Option Int → Hp → Prop} (h : R none H) : tNoPart σ H R := h
theorem r_part {te : TE} {R : Option Int → Hp → Prop} (h : te σ H fun x H1 => ∃ i, x = .int i ∧ R (some i) H1) : tPart te σ H R := h
theorem r_exI {i : Int} {R : Int → Prop} (h : R i) : ∃ j, V.int i = .int j ∧ R j := ⟨i, rfl, h⟩
theorem r_slList {a : Addr} {xs : List V} {lo hi : Option Int} (h1 : SqL K H a xs) (h : ∀ p, H p = none → Q (.ref p) (upd H p (.lst (cutV xs lo hi)))) : rSlL K (.ref a) lo hi H Q := ⟨a, xs, rfl, h1, h⟩
theorem r_setL {p : Addr} {xs : List V} {k : Int} {j : Nat} {R : Hp → Prop} (h1 : H p = some (.lst xs)) (h2 : ixN xs.length k = some j) (h : R (upd H p (.lst (xs.set j v)))) : rSetL (.ref p) (.int k) v H R := ⟨p, xs, k, j, rfl, rfl, h1, h2, h⟩
theorem r_int {i : Int} {R : Int → Prop} {B : Prop} (h : R i) : (∃ j, [V.int i] = [.int j] ∧ R j) ∨ B := .inl ⟨i, rfl, h⟩
theorem r_len {p : Addr} {ys : List V} (h1 : SqL K H p ys ∨ SqT K H p ys) (h : Q (.int ys.length) H) : rLn K [.ref p] H Q := ⟨p, ys, rfl, h1, h⟩
theorem r_list {p : Addr} {ys : List V} (h1 : SqL K H p ys ∨ SqT K H p ys) (h : ∀ l, H l = none → Q (.ref l) (upd H l (.lst ys))) : rLs K [.ref p] H Q := ⟨p, ys, rfl, h1, h⟩
end
section
variable {X : Cx}
/-- a statement, then the rest, a word of one's own between them -/
def tMid (t u : TS) : TS := fun D σ H => ∃ M : L2.St → Hp → Prop, t ⟨M, D.rt, D.bk, D.ct⟩ σ H ∧ ∀ σ' H', M σ' H' → u D σ' H'
theorem pss_mid {st : Stmt} {rest : List Stmt} {t u : TS} (h1 : PS X st t) (h2 : PSs X rest u) : PSs X (st :: rest) (tMid t u) := by
  refine ⟨fun pins s σ H D I h => ?_⟩
  obtain ⟨M, hm, hu⟩ := h
  refine wpAny_execs_cons (thn (h1.run pins s σ H ⟨M, D.rt, D.bk, D.ct⟩ I hm) fun f s1 q => ?_)
  cases f with
  | next =>
    obtain ⟨σ', H', I', q⟩ := q
    exact h2.run pins s1 σ' H' D I' (hu σ' H' q)
  | ret v => exact q
  | brk => exact q
  | cont => exact q
theorem r_mid {t u : TS} {nx : L2.St → Hp → Prop} {rt : VK} {bk ct : L2.St → Hp → Prop} {σ : L2.St} {H : Hp} (M : L2.St → Hp → Prop) (h1 : t ⟨M, rt, bk, ct⟩ σ H) (h2 : ∀ σ' H', M σ' H' → u ⟨nx, rt, bk, ct⟩ σ' H') : tMid t u ⟨nx, rt, bk, ct⟩ σ H := ⟨M, h1, h2⟩
/-- a store into a list: the heap behind it by a name -/
theorem r_setB {K : PySem.W.Frag} {H : Hp} {b : Addr} {l : List V} {k : Int} {j : Nat} {v : V} {R : Hp → Prop} (h1 : H b = some (.lst l)) (h2 : ixN l.length k = some j) (l' : List V) (h3 : l.set j v = l')
    (h : ∀ H1, H1 b = some (.lst l') → Ext [b] H H1 → (∀ a xs, SqL K H a xs → xs ≠ l → SqL K H1 a xs) → R H1) : rSetL (.ref b) (.int k) v H R := by
  refine ⟨b, l, k, j, rfl, rfl, h1, h2, h _ ?_ (Ext.refl.at_ List.mem_cons_self) fun a xs q hd => ?_⟩
  · rw [h3]
    exact upd_same
  · rcases q with (q | ⟨u, q⟩) | q
    · exact .inl (.inl (by rw [upd_ne (fun z => hd (by rw [z, h1] at q; cases q; rfl))]; exact q))
    · exact .inl (.inr ⟨u, by rw [upd_ne (fun z => by rw [z, h1] at q; cases q)]; exact q⟩)
    · exact .inr q
end
section
variable {P : Program} {w : World} {K : PySem.W.Frag} {mg : Str → Option Value} {base : Heap}
/-- def f(a, .., *v) -/
theorem fn_star {x pv : Str} {params : Arguments} {body : List Stmt} {scope : Scope} {f : Addr} {fd : FuncData} {N ps : List Str} {k : Nat} {sp sp' : Sp}
    (F : FunD K x x params body scope [] [] f fd) (hm : mg x = some (.ref f)) (S : FnScope N (ps ++ [pv]) scope)
    (hb : ∀ (kV doc pm : Value) (an : Option Addr) (cdv ct : Value) (us rest : List Value), us.length = ps.length → bindArgs (PySem.W.fnOf x x params body scope .none kV doc pm an cdv ct) ⟨us ++ rest, []⟩ = (newTuple rest >>= fun t => pure (ps.zip us ++ [(pv, t)])))
    (hbody : ∀ (cdv : Value) (A : Around) (outer : List Env) (s : Shared) (H : Hp) (vs : List V) (Q : VK) (E : XK), Room k (A.deeper (envOfC x scope s.heap.objs.size f cdv)) → sp vs H Q E →
      ∃ t, PSs (cxOf CX0 P w K mg base N x scope f cdv A outer s H E).nox body t ∧ t ⟨fun _ H' => Q .non H', Q, fun _ _ => False, fun _ _ => False⟩ (start N vs) H)
    (himp : ∀ vs H Q E, sp' vs H Q E → ∃ ws rest, vs = ws ++ rest ∧ ws.length = ps.length ∧ rest.length ≤ sizeLine ∧ ∀ p, H p = none → sp (ws ++ [V.ref p]) (upd H p (.tup rest)) Q E) : Fn P w K mg base (k + 1) x sp' := by
  have kp := F.kp
  obtain ⟨oc, od, dV, kV, doc, pm, an, cdv, ct, osl, rfl, lk, hcd, hD, _⟩ := F.ex
  rcases hD with ⟨_, rfl⟩ | ⟨e, _⟩
  · have R := StX.fn_star (P := P) (w := w) (mg := mg) (base := base) (sp := sp) lk hcd S StX.cxUp_none (hb kV doc pm an cdv ct) (fun A outer s H vs Q E hr h => let ⟨t, h1, h2⟩ := hbody cdv A outer s H vs Q E hr h; ⟨t, h1.nox, h2⟩)
    exact ⟨f, hm, kp, R.imp himp⟩
  · exact absurd rfl e
end
end Yk

set_option maxHeartbeats 1000000
/-! Calls by name: two parameters, told in the other order. -/
namespace Yk
open PySem PySem.Spec PyProof.Rows L2
def sw2 {α : Type} (us ws : List α) : List α := match us, ws with
  | [], [a, b] => [b, a]
  | _, _ => []
theorem sw2_rel {vs : List V} {us : List Value} {zs : List V} {ws : List Value} (h1 : Vals vs us) (h2 : Vals zs ws) : Vals (sw2 vs zs) (sw2 us ws) := by
  cases h1 with
  | cons a b => exact .nil
  | nil =>
    cases h2 with
    | nil => exact .nil
    | cons a h2 =>
      cases h2 with
      | nil => exact .nil
      | cons b h2 =>
        cases h2 with
        | nil => exact .cons b (.cons a .nil)
        | cons c h2 => exact .nil
section
variable (P : Program) (w : World) (K : PySem.W.Frag) (mg : Str → Option Value) (base : Heap)
structure FnS (k : Nat) (x : Str) (ks : List Str) (sp : Sp) : Prop where
  run : ∃ f fd ps, mg x = some (.ref f) ∧ PySem.W.keepIn K (.ref f) = true ∧ FnOk P w K mg base CX0 k f fd ps sp ∧ KBinds K fd ps ks sw2 sw2
end
section
variable {P : Program} {w : World} {K : PySem.W.Frag} {mg : Str → Option Value} {base : Heap} {f : Addr} {fd : FuncData}
theorem ok_def {x : Str} {params : Arguments} {body : List Stmt} {scope : Scope} {N ps : List Str} {k : Nat} {sp : Sp}
    (F : FunD K x x params body scope [] [] f fd) (S : FnScope N ps scope) (len : ∀ vs H Q E, sp vs H Q E → vs.length = ps.length)
    (hbody : ∀ (cdv : Value) (A : Around) (outer : List Env) (s : Shared) (H : Hp) (vs : List V) (Q : VK) (E : XK), Room k (A.deeper (envOfC x scope s.heap.objs.size f cdv)) → sp vs H Q E →
      ∃ t, PSs (cxOf CX0 P w K mg base N x scope f cdv A outer s H E).nox body t ∧ t ⟨fun _ H' => Q .non H', Q, fun _ _ => False, fun _ _ => False⟩ (start N vs) H) : FnOk P w K mg base CX0 (k + 1) f fd ps sp :=
  F.ok S len fun cdv A outer s H vs Q E hr h => by
    obtain ⟨t, h1, h2⟩ := hbody cdv A outer s H vs Q E hr h
    exact ⟨t, h1.nox, h2⟩
theorem fn_none {x : Str} {params : Arguments} {body : List Stmt} {scope : Scope} (F : FunD K x x params body scope [] [] f fd) {k : Nat} (hm : mg x = some (.ref f)) : Fn P w K mg base k x (fun _ _ _ _ => False) :=
  ⟨f, hm, F.kp, fun _ _ _ _ _ _ _ _ _ _ _ h => h.elim⟩
theorem fn_of_ok {x : Str} {params : Arguments} {body : List Stmt} {scope : Scope} {ps : List Str} {k : Nat} {sp : Sp}
    (F : FunD K x x params body scope [] [] f fd) (hm : mg x = some (.ref f)) (G : FnOk P w K mg base CX0 k f fd ps sp)
    (hb : ∀ (kV doc pm : Value) (an : Option Addr) (cdv ct : Value) (us : List Value), us.length = ps.length → bindArgs (PySem.W.fnOf x x params body scope .none kV doc pm an cdv ct) ⟨us, []⟩ = pure (ps.zip us)) : Fn P w K mg base k x sp := by
  have b := F.bindsN hb
  have R := G.raw b .nil
  refine ⟨f, hm, F.kp, R.imp fun vs H Q E h => ?_⟩
  rw [List.append_nil]
  exact h
theorem fs_of_ok {x p1 p2 : Str} {params : Arguments} {body : List Stmt} {scope : Scope} {k : Nat} {sp : Sp}
    (F : FunD K x x params body scope [] [] f fd) (hm : mg x = some (.ref f)) (G : FnOk P w K mg base CX0 k f fd [p1, p2] sp)
    (hb : ∀ (kV doc pm : Value) (an : Option Addr) (cdv ct : Value) (a b : Value), bindArgs (PySem.W.fnOf x x params body scope .none kV doc pm an cdv ct) ⟨[], [(p2, a), (p1, b)]⟩ = pure [(p1, b), (p2, a)]) : FnS P w K mg base k x [p2, p1] sp := by
  refine ⟨f, fd, [p1, p2], hm, F.kp, G, ⟨fun s us ws hK hl => ?_, sw2_rel⟩⟩
  obtain ⟨oc, od, dV, kV, doc, pm, an, cdv, ct, osl, rfl, lk, hcd, hD, _⟩ := F.ex
  rcases hD with ⟨_, rfl⟩ | ⟨e, _⟩
  · match us, ws, hl with
    | [], [a, b], _ => exact .of_eq (hb kV doc pm an cdv ct a b)
    | [], [], h => cases h
    | [], [_], h => cases h
    | [], _ :: _ :: _ :: _, h => cases h
    | _ :: _, _, h => cases h
  · exact absurd rfl e
end
section
variable {X : Cx} {k : Nat} {sp : Sp} {x : Str} {p pos : Pos} {ks : List Str} {kws : List Keyword} {tk : TA}
def tRS (sp : Sp) (tk : TA) : TE := fun σ H Q => tk σ H fun zs H1 => ∃ a b, zs = [a, b] ∧ sp [b, a] H1 Q E0
theorem r_RS {σ : L2.St} {H : Hp} {Q : VK} (h : tk σ H fun zs H1 => ∃ a b, zs = [a, b] ∧ sp [b, a] H1 Q E0) : tRS sp tk σ H Q := h
theorem pe_fnS (F : FnS X.prog X.w X.K X.mg X.base k x ks sp) (hr : Room k X.A) (hkw : PK X kws tk) (hg : Gl X x := by rfl) (hdb : (x == ("__debug__" : Str)) = false := by decide)
    (hx : Passes CX0 X E0 := by exact pass0)
    (hall : (backToKw pos (keywordEach kws X.env)).all (·.1.isSome) = true := by rfl) (hks : (backToKw pos (keywordEach kws X.env)).filterMap (·.1) = ks := by rfl)
    (hpl : ((backTo pos (starEach [] X.env)).any (·.1) || (backToKw pos (keywordEach kws X.env)).any (·.1.isNone)) = false := by rfl) :
    PE X (.Call (.Name x p) [] kws pos) (tRS sp tk) := by
  obtain ⟨f, fd, ps, hm, hk, F, hb⟩ := F.run
  refine ⟨fun pins s σ H Q I h => ?_⟩
  refine wpAny_Call_Name_kw (ld_glob I hg hm ?_ hdb)
  refine PySem.W.callWith_KW0 (h₀ := X.base) I.ok.mod.kin hk hall ?_ hpl
  refine thn (hkw.run pos pins s σ H _ I h) fun ws s2 ⟨zs, H2, I2, rz, a, b, ez, q2⟩ => ⟨I2.kIn, ?_⟩
  rw [hks]
  subst ez
  exact run_fnk (us := []) (vs := []) (g := sw2) (gV := sw2) F hr hb hx I2 .nil rz q2
end

/-! stars, and what is a list or a tuple -/
section
variable {X : Cx} {k : Nat} {sp : Sp} {x : Str} {p sp_ pos : Pos} {e : Expr} {es : List Expr} {te : TE} {t : TA}
def tR1 (K : PySem.W.Frag) (sp : Sp) (te : TE) : TE := fun σ H Q => te σ H fun y H1 => ∃ a xs, y = V.ref a ∧ (SqT K H1 a xs ∨ SqL K H1 a xs) ∧ sp xs H1 Q E0
theorem r_R1 {K : PySem.W.Frag} {σ : L2.St} {H : Hp} {Q : VK} (h : te σ H fun y H1 => ∃ a xs, y = V.ref a ∧ (SqT K H1 a xs ∨ SqL K H1 a xs) ∧ sp xs H1 Q E0) : tR1 K sp te σ H Q := h
theorem r_star {K : PySem.W.Frag} {σ : L2.St} {H : Hp} {R : List V → Hp → Prop} (h : te σ H fun x H1 => ∃ p xs, x = V.ref p ∧ (SqT K H1 p xs ∨ SqL K H1 p xs) ∧ t σ H1 fun ys H2 => R (xs ++ ys) H2) : StX.tStar K te t σ H R := h
theorem pe_fnS1 (F : Fn X.prog X.w X.K X.mg X.base k x sp) (hr : Room k X.A) (he : PE X e te) (hg : Gl X x := by rfl) (hdb : (x == ("__debug__" : Str)) = false := by decide) (hx : Passes CX0 X E0 := by exact pass0)
    (hst : starEach [.Starred e sp_] X.env = [(true, eval e X.env)] := by rfl) : PE X (.Call (.Name x p) [.Starred e sp_] [] pos) (tR1 X.K sp te) := by
  obtain ⟨f, hm, hk, F⟩ := F.run
  exact StX.pe_callS1 F hr hk hg hm hx he hdb hst
theorem pe_fnS2 (F : Fn X.prog X.w X.K X.mg X.base k x sp) (hr : Room k X.A) (ha : PA X (e :: es) t) (hg : Gl X x := by rfl) (hdb : (x == ("__debug__" : Str)) = false := by decide) (hx : Passes CX0 X E0 := by exact pass0)
    (he : starEach (e :: es) X.env = (false, eval e X.env) :: starEach es X.env := by rfl) (hst : (backTo pos (starEach es X.env)).any (·.1) = true := by rfl) : PE X (.Call (.Name x p) (e :: es) [] pos) (tR sp t) := by
  obtain ⟨f, hm, hk, F⟩ := F.run
  exact StX.pe_callS2 F hr hk hg hm hx ha hdb he hst
def iSeq (K : PySem.W.Frag) (tl : TE) : TI := fun σ H R => iList K tl σ H R ∨ iTup K tl σ H R
theorem pi_seq {tg l : Expr} {tl : TE} (hl : PE X l tl) : PI X tg l (iSeq X.K tl) :=
  ⟨fun pins s σ H R I h => h.elim (fun h => (pi_list hl).run pins s σ H R I h) (fun h => (pi_tup hl).run pins s σ H R I h)⟩
end
section
variable {K : PySem.W.Frag} {nx : L2.St → Hp → Prop} {rt : VK} {bk ct : L2.St → Hp → Prop} {σ : L2.St} {H : Hp} {Q : VK} {g : TG} {tt : TT} {te : TE} {t : TS} {vs : List Nat}
/-- carried on: what is a list or a tuple at a -/
def Kp (K : PySem.W.Frag) (a : Addr) (xs : List V) (H H2 : Hp) : Prop := (SqL K H a xs → SqL K H2 a xs) ∧ (SqT K H a xs → SqT K H2 a xs)
theorem kp0 {a : Addr} {xs : List V} {H2 : Hp} (e : Ext [] H H2) : Kp K a xs H H2 := ⟨lst0 e, tup0 e⟩
theorem Kp.trans {a : Addr} {xs : List V} {H1 H2 : Hp} (h : Kp K a xs H H1) (g : Kp K a xs H1 H2) : Kp K a xs H H2 := ⟨fun z => g.1 (h.1 z), fun z => g.2 (h.2 z)⟩
abbrev SqQ (K : PySem.W.Frag) (H : Hp) (a : Addr) (xs : List V) : Prop := SqL K H a xs ∨ SqT K H a xs
theorem Kp.q {a : Addr} {xs : List V} {H2 : Hp} (h : Kp K a xs H H2) (z : SqQ K H a xs) : SqQ K H2 a xs := z.elim (fun z => .inl (h.1 z)) fun z => .inr (h.2 z)
theorem sqq0 {a : Addr} {xs : List V} {H2 : Hp} (e : Ext [] H H2) (h : SqQ K H a xs) : SqQ K H2 a xs := (kp0 e).q h
theorem r_lcQ {i : Nat} {a : Addr} {xs : List V} {Qd : Addr → Hp → Prop} {H0 : Hp} (h1 : σ[i]? = some (some (.ref a))) (h2 : SqQ K H0 a xs) (hk : Kp K a xs H0 H) (h : ∀ D, H D = none → ∃ Pv : Nat → Hp → Prop, Pv 0 (upd H D (.lst [])) ∧ (∀ j H2, Pv j H2 → Kp K a xs H0 H2) ∧
    (∀ j x H, xs[j]? = some x → Pv j H → g x (wipe σ vs) H fun σ2 H2 => wipe σ2 vs = wipe σ vs ∧ tt σ2 H2 fun b H3 =>
      if b = true then te σ2 H3 fun y H4 => ∃ acc, H4 D = some (.lst acc) ∧ acc.length < sizeLine ∧ Pv (j + 1) (upd H4 D (.lst (acc ++ [y]))) else Pv (j + 1) H3) ∧ ∀ H, Pv xs.length H → Qd D H) :
    iSeq K (tVar i) σ H fun J H1 => ∀ D, H1 D = none → ∃ W : Nat → Nat → Hp → Prop, (∃ m, W 0 m (upd H1 D (.lst []))) ∧ ∀ i m H, W i m H →
      (J.stop i H ∧ Qd D H) ∨ (J.go i H ∧ ∃ Nx : Hp → Prop, (∀ H', Nx H' → ∃ m', m' < m ∧ W (i + 1) m' H') ∧ ∀ x H', J.yld i H x H' → g x (wipe σ vs) H' fun σ2 H2 => wipe σ2 vs = wipe σ vs ∧ tt σ2 H2 fun b H3 =>
        if b = true then te σ2 H3 fun y H4 => ∃ acc, H4 D = some (.lst acc) ∧ acc.length < sizeLine ∧ Nx (upd H4 D (.lst (acc ++ [y]))) else Nx H3) := by
  rcases h2 with h2 | h2
  · refine Or.inl ⟨_, h1, a, rfl, ⟨xs, hk.1 h2⟩, fun D hD => ?_⟩
    obtain ⟨Pv, p0, pk, ps, pd⟩ := h D hD
    exact lc_list (Qd := Qd D) Pv p0 (fun j H2 _ p => (pk j H2 p).1 h2) ps pd
  · refine Or.inr ⟨_, h1, a, rfl, ⟨xs, hk.2 h2⟩, fun D hD => ?_⟩
    obtain ⟨Pv, p0, pk, ps, pd⟩ := h D hD
    exact lc_tup (Qd := Qd D) Pv p0 (fun j H2 _ p => (pk j H2 p).2 h2) ps pd
theorem r_forQ {i : Nat} {a : Addr} {xs : List V} {H0 : Hp} (h1 : σ[i]? = some (some (.ref a))) (h2 : SqQ K H0 a xs) (hk : Kp K a xs H0 H) (Pv : Nat → L2.St → Hp → Prop) (h0 : Pv 0 σ H) (hl : ∀ i σ H2, i ≤ xs.length → Pv i σ H2 → Kp K a xs H0 H2)
    (hs : ∀ i x σ H, xs[i]? = some x → Pv i σ H → g x σ H fun σ2 H2 => t ⟨Pv (i + 1), rt, nx, Pv (i + 1)⟩ σ2 H2) (hd : ∀ σ H, Pv xs.length σ H → nx σ H) : tFor (iSeq K (tVar i)) g t ⟨nx, rt, bk, ct⟩ σ H := by
  rcases h2 with h2 | h2
  · exact Or.inl ⟨_, h1, a, rfl, ⟨xs, hk.1 h2⟩, for_list (D := ⟨nx, rt, nx, nx⟩) Pv h0 (fun i σ H2 z p => (hl i σ H2 z p).1 h2) hs hd⟩
  · exact Or.inr ⟨_, h1, a, rfl, ⟨xs, hk.2 h2⟩, for_tup (D := ⟨nx, rt, nx, nx⟩) Pv h0 (fun i σ H2 z p => (hl i σ H2 z p).2 h2) hs hd⟩
end
/-! rows that go together -/
section
variable {α β : Type}
def Rel (R : V → α → Prop) (xs : List V) (rs : List α) : Prop := xs.length = rs.length ∧ ∀ (i : Nat) (v : V) (r : α), xs[i]? = some v → rs[i]? = some r → R v r
variable {R R' : V → α → Prop} {xs ys : List V} {rs ts : List α}
theorem Rel.nil : Rel R [] [] := ⟨rfl, fun i v q h => by simp at h⟩
theorem Rel.cons {v : V} {r : α} (h : R v r) (g : Rel R xs rs) : Rel R (v :: xs) (r :: rs) := by
  refine ⟨by simp [g.1], fun i w u a b => ?_⟩
  cases i with
  | zero =>
    simp at a b
    subst a b
    exact h
  | succ i =>
    simp at a b
    exact g.2 i w u a b
theorem Rel.imp (h : Rel R xs rs) (f : ∀ v r, R v r → R' v r) : Rel R' xs rs := ⟨h.1, fun i v r a b => f v r (h.2 i v r a b)⟩
theorem Rel.impM (h : Rel R xs rs) (f : ∀ v r, r ∈ rs → R v r → R' v r) : Rel R' xs rs := ⟨h.1, fun i v r a b => f v r (List.mem_of_getElem? b) (h.2 i v r a b)⟩
theorem Rel.at_ (h : Rel R xs rs) {i : Nat} {v : V} (hv : xs[i]? = some v) : ∃ r, rs[i]? = some r ∧ R v r := by
  have hi : i < rs.length := by rw [← h.1]; exact (List.getElem?_eq_some_iff.mp hv).1
  exact ⟨rs[i], List.getElem?_eq_getElem hi, h.2 i v _ hv (List.getElem?_eq_getElem hi)⟩
theorem Rel.app (h : Rel R xs rs) (g : Rel R ys ts) : Rel R (xs ++ ys) (rs ++ ts) := by
  refine ⟨by rw [List.length_append, List.length_append, h.1, g.1], fun j v q a b => ?_⟩
  by_cases hj : j < xs.length
  · rw [List.getElem?_append_left hj] at a
    rw [List.getElem?_append_left (by rw [← h.1]; exact hj)] at b
    exact h.2 j v q a b
  · rw [List.getElem?_append_right (by omega)] at a
    rw [List.getElem?_append_right (by rw [← h.1]; omega), ← h.1] at b
    exact g.2 _ v q a b
theorem Rel.hd {v : V} {r : α} (h : Rel R (v :: xs) (r :: rs)) : R v r := h.2 0 v r rfl rfl
theorem Rel.tl {v : V} {r : α} (h : Rel R (v :: xs) (r :: rs)) : Rel R xs rs := ⟨by simpa using h.1, fun i w u a b => h.2 (i + 1) w u (by simpa using a) (by simpa using b)⟩
theorem Rel.cases {v : V} (h : Rel R (v :: xs) rs) : ∃ r t, rs = r :: t ∧ R v r ∧ Rel R xs t := by
  cases rs with
  | nil => exact absurd h.1 (by simp)
  | cons r t => exact ⟨r, t, rfl, h.hd, h.tl⟩
theorem Rel.take (h : Rel R xs rs) (n : Nat) : Rel R (xs.take n) (rs.take n) := by
  refine ⟨by rw [List.length_take, List.length_take, h.1], fun j v q a b => ?_⟩
  rw [List.getElem?_take] at a b
  split at a
  · rename_i hj
    rw [if_pos hj] at b
    exact h.2 j v q a b
  · cases a
theorem Rel.drop (h : Rel R xs rs) (n : Nat) : Rel R (xs.drop n) (rs.drop n) := by
  refine ⟨by rw [List.length_drop, List.length_drop, h.1], fun j v q a b => ?_⟩
  rw [List.getElem?_drop] at a b
  exact h.2 _ v q a b
theorem Rel.perm (p : ys.Perm xs) : ∀ {rs : List α}, Rel R xs rs → ∃ ts, Rel R ys ts ∧ ts.Perm rs := by
  induction p with
  | nil => exact fun {rs} h => ⟨rs, h, List.Perm.refl _⟩
  | cons x _ ih =>
    intro rs h
    obtain ⟨r, t, rfl, a, b⟩ := h.cases
    obtain ⟨ts, c, d⟩ := ih b
    exact ⟨r :: ts, .cons a c, d.cons r⟩
  | swap x y l =>
    intro rs h
    obtain ⟨r1, t, rfl, a, b⟩ := h.cases
    obtain ⟨r2, t, rfl, c, d⟩ := b.cases
    exact ⟨r2 :: r1 :: t, .cons c (.cons a d), List.Perm.swap r1 r2 t⟩
  | trans _ _ ih1 ih2 =>
    intro rs h
    obtain ⟨ts, a, b⟩ := ih2 h
    obtain ⟨us, c, d⟩ := ih1 a
    exact ⟨us, c, d.trans b⟩
theorem Rel.snoc {v : V} {r : α} (h : Rel R xs rs) (g : R v r) : Rel R (xs ++ [v]) (rs ++ [r]) := h.app (.cons g .nil)
end
/-! steps -/
section
variable {K : PySem.W.Frag} {nx : L2.St → Hp → Prop} {rt : VK} {bk ct : L2.St → Hp → Prop} {σ : L2.St} {H : Hp} {Q : VK} {te : TE} {x y : V}
theorem r_app {l : Addr} {xs : List V} (h1 : H l = some (.lst xs)) (h2 : xs.length ≤ 4000) (h : Q .non (upd H l (.lst (xs ++ [y])))) : rAppend (.ref l) [y] H Q := ⟨l, xs, y, rfl, rfl, h1, Nat.lt_of_le_of_lt h2 (by decide), h⟩
theorem ty_lst {l : Addr} {xs : List V} (h : H l = some (.lst xs)) : tyV K "list" (.ref l) H := .inl ⟨rfl, xs, .inl (.inl h)⟩
theorem r_aug {i : Nat} {ti : TIp} (h1 : σ[i]? = some (some x)) (h : te σ H fun y H1 => ti x y H1 fun z H2 => nx (σ.set i (some z)) H2) : tAug i te ti ⟨nx, rt, bk, ct⟩ σ H := ⟨x, h1, h⟩
theorem r_ipI {f : Int → Int → Int} {i j : Int} {R : V → Hp → Prop} (h : R (.int (f i j)) H) : ipI f (.int i) (.int j) H R := ⟨i, j, rfl, rfl, h⟩
theorem cut_drop {xs : List V} {n : Nat} (h : n ≤ xs.length) : cutV xs (some (n : Int)) none = xs.drop n := by
  have e : HT.sIx xs.length 0 (some (n : Int)) = n := by rw [HT.sIx_nat]; exact Nat.min_eq_left h
  have e2 : HT.sIx xs.length xs.length none = xs.length := rfl
  unfold cutV
  rw [e, e2]
  exact List.take_of_length_le (by simp)
theorem cut_take {xs : List V} {n : Nat} (h : n ≤ xs.length) : cutV xs none (some (n : Int)) = xs.take n := by
  have e : HT.sIx xs.length xs.length (some (n : Int)) = n := by rw [HT.sIx_nat]; exact Nat.min_eq_left h
  have e2 : HT.sIx xs.length 0 none = 0 := rfl
  unfold cutV
  rw [e, e2]
  simp
end
section
theorem ixN_at {n j : Nat} {i : Int} (h : i = (j : Int)) (hj : j < n) : ixN n i = some j := by
  unfold ixN
  rw [if_pos (by omega), if_pos (by omega), h, Int.toNat_natCast]
theorem at0 {v : V} {xs : List V} : atI (v :: xs) 0 = some v := atI_nat (j := 0) rfl
theorem at1 {v w : V} {xs : List V} : atI (v :: w :: xs) 1 = some w := atI_nat (j := 1) rfl
theorem at_n {v : V} {xs : List V} {n : Nat} {i : Int} (hi : i = (n : Int)) (h : xs[n]? = some v) : atI xs i = some v := by rw [hi]; exact atI_nat h
end
theorem r_ndec {p : Prop} [Decidable p] {A B : Prop} (h1 : ¬ p → A) (h2 : p → B) : if (!decide p) = true then A else B := by
  by_cases hp : p
  · rw [decide_eq_true hp, if_neg (by decide)]; exact h2 hp
  · rw [decide_eq_false hp, if_pos (by decide)]; exact h1 hp
def rTs (K : PySem.W.Frag) : List V → Hp → VK → Prop := fun xs H Q => ∃ p ys, xs = [.ref p] ∧ ((SqL K H p ys ∧ ∀ l, H l = none → Q (.ref l) (upd H l (.tup ys))) ∨ (SqT K H p ys ∧ Q (.ref p) H))
theorem cr_tuple {X : Cx} : CallR X (.type "tuple") (rTs X.K) := call_tuple_of
theorem r_tupleL {K : PySem.W.Frag} {H : Hp} {Q : VK} {p : Addr} {ys : List V} (h : SqL K H p ys) (k : ∀ l, H l = none → Q (.ref l) (upd H l (.tup ys))) : rTs K [.ref p] H Q := ⟨p, ys, rfl, .inl ⟨h, k⟩⟩
end Yk

set_option maxHeartbeats 1000000
/-! Calls by place and by name, in any order; data that stands clear of some addresses. -/
namespace Yk
open PySem PySem.Spec PyProof.Rows L2
/-- the parameters' values: the i-th is the idx[i]-th of all that are passed -/
def arr {α : Type} (m n : Nat) (idx : List Nat) (us ws : List α) : List α := if us.length = m ∧ ws.length = n then idx.filterMap fun i => (us ++ ws)[i]? else []
theorem Vals.app {vs zs : List V} {us ws : List Value} (h : Vals vs us) (g : Vals zs ws) : Vals (vs ++ zs) (us ++ ws) := by
  induction h with
  | nil => exact g
  | cons a _ ih => exact .cons a ih
theorem Vals.get {vs : List V} {us : List Value} (h : Vals vs us) : ∀ i : Nat, (vs[i]? = none ∧ us[i]? = none) ∨ ∃ v u, vs[i]? = some v ∧ us[i]? = some u ∧ RelV v u := by
  induction h with
  | nil => intro i; exact .inl ⟨rfl, rfl⟩
  | cons a _ ih =>
    intro i
    cases i with
    | zero => exact .inr ⟨_, _, rfl, rfl, a⟩
    | succ i => exact ih i
theorem Vals.pick {vs : List V} {us : List Value} (h : Vals vs us) : ∀ idx : List Nat, Vals (idx.filterMap fun i => vs[i]?) (idx.filterMap fun i => us[i]?)
  | [] => .nil
  | i :: idx => by
    rcases Vals.get h i with ⟨a, b⟩ | ⟨v, u, a, b, r⟩
    · rw [List.filterMap_cons_none a, List.filterMap_cons_none b]
      exact Vals.pick h idx
    · rw [List.filterMap_cons_some a, List.filterMap_cons_some b]
      exact .cons r (Vals.pick h idx)
theorem arr_rel {m n : Nat} {idx : List Nat} {vs : List V} {us : List Value} {zs : List V} {ws : List Value} (h1 : Vals vs us) (h2 : Vals zs ws) : Vals (arr m n idx vs zs) (arr m n idx us ws) := by
  unfold arr
  rw [h1.length, h2.length]
  split
  · exact Vals.pick (Vals.app h1 h2) idx
  · exact .nil
section
variable (P : Program) (w : World) (K : PySem.W.Frag) (mg : Str → Option Value) (base : Heap)
structure FnX (k : Nat) (x : Str) (m : Nat) (ks : List Str) (idx : List Nat) (sp : Sp) : Prop where
  run : ∃ f fd ps, mg x = some (.ref f) ∧ PySem.W.keepIn K (.ref f) = true ∧ FnOk P w K mg base CX0 k f fd ps sp ∧ KBinds K fd ps ks (arr m ks.length idx) (arr m ks.length idx)
end
section
variable {P : Program} {w : World} {K : PySem.W.Frag} {mg : Str → Option Value} {base : Heap} {f : Addr} {fd : FuncData}
theorem fx_of_ok {x : Str} {params : Arguments} {body : List Stmt} {scope : Scope} {ps : List Str} {k : Nat} {sp : Sp} (m : Nat) (ks : List Str) (idx : List Nat)
    (F : FunD K x x params body scope [] [] f fd) (hm : mg x = some (.ref f)) (G : FnOk P w K mg base CX0 k f fd ps sp) (h0 : 0 < ps.length)
    (hb : ∀ (kV doc pm : Value) (an : Option Addr) (cdv ct : Value) (us ws : List Value), us.length = m → ws.length = ks.length → bindArgs (PySem.W.fnOf x x params body scope .none kV doc pm an cdv ct) ⟨us, ks.zip ws⟩ = pure (ps.zip (arr m ks.length idx us ws))) : FnX P w K mg base k x m ks idx sp := by
  refine ⟨f, fd, ps, hm, F.kp, G, ⟨fun s us ws hK hl => ?_, arr_rel⟩⟩
  obtain ⟨oc, od, dV, kV, doc, pm, an, cdv, ct, osl, rfl, lk, hcd, hD, _⟩ := F.ex
  rcases hD with ⟨_, rfl⟩ | ⟨e, _⟩
  · by_cases hc : us.length = m ∧ ws.length = ks.length
    · exact .of_eq (hb kV doc pm an cdv ct us ws hc.1 hc.2)
    · have e : arr m ks.length idx us ws = [] := if_neg hc
      rw [e] at hl
      exact absurd hl (by show (0 : Nat) ≠ ps.length; omega)
  · exact absurd rfl e
end
section
variable {X : Cx} {k m : Nat} {sp : Sp} {x : Str} {p pos : Pos} {ks : List Str} {idx : List Nat} {kws : List Keyword} {e : Expr} {es : List Expr} {t tk : TA}
def tRX (m n : Nat) (idx : List Nat) (sp : Sp) (t tk : TA) : TE := fun σ H Q => t σ H fun vs H1 => tk σ H1 fun zs H2 => ∃ us, us = arr m n idx vs zs ∧ sp us H2 Q E0
theorem r_RX {n : Nat} {σ : L2.St} {H : Hp} {Q : VK} (h : t σ H fun vs H1 => tk σ H1 fun zs H2 => ∃ us, us = arr m n idx vs zs ∧ sp us H2 Q E0) : tRX m n idx sp t tk σ H Q := h
theorem pe_fnX (F : FnX X.prog X.w X.K X.mg X.base k x m ks idx sp) (hr : Room k X.A) (ha : PA X (e :: es) t) (hkw : PK X kws tk) (hg : Gl X x := by rfl) (hdb : (x == ("__debug__" : Str)) = false := by decide)
    (hx : Passes CX0 X E0 := by exact pass0)
    (hall : (backToKw pos (keywordEach kws X.env)).all (·.1.isSome) = true := by rfl) (hks : (backToKw pos (keywordEach kws X.env)).filterMap (·.1) = ks := by rfl)
    (he : starEach (e :: es) X.env = (false, eval e X.env) :: starEach es X.env := by rfl)
    (hpl : ((backTo pos (starEach (e :: es) X.env)).any (·.1) || (backToKw pos (keywordEach kws X.env)).any (·.1.isNone)) = false := by rfl) :
    PE X (.Call (.Name x p) (e :: es) kws pos) (tRX m ks.length idx sp t tk) := by
  obtain ⟨f, fd, ps, hm, hk, F, hb⟩ := F.run
  refine ⟨fun pins s σ H Q I h => ?_⟩
  refine wpAny_Call_Name_kw (ld_glob I hg hm ?_ hdb)
  refine PySem.W.callWith_KW (h₀ := X.base) I.ok.mod.kin hk hall (thn (ha.run pos pins s σ H _ I h) fun us s1 ⟨vs, H1, I1, r, q⟩ => ?_) hpl he
  refine thn (hkw.run pos pins s1 σ H1 _ I1 q) fun ws s2 ⟨zs, H2, I2, rz, us', e, q2⟩ => ⟨I2.kIn, ?_⟩
  rw [hks]
  subst e
  exact run_fnk F hr hb hx I2 r rz q2
theorem pe_fnX0 (F : FnX X.prog X.w X.K X.mg X.base k x m ks idx sp) (hr : Room k X.A) (hkw : PK X kws tk) (hg : Gl X x := by rfl) (hdb : (x == ("__debug__" : Str)) = false := by decide)
    (hx : Passes CX0 X E0 := by exact pass0)
    (hall : (backToKw pos (keywordEach kws X.env)).all (·.1.isSome) = true := by rfl) (hks : (backToKw pos (keywordEach kws X.env)).filterMap (·.1) = ks := by rfl)
    (hpl : ((backTo pos (starEach [] X.env)).any (·.1) || (backToKw pos (keywordEach kws X.env)).any (·.1.isNone)) = false := by rfl) :
    PE X (.Call (.Name x p) [] kws pos) (tRX m ks.length idx sp tNil tk) := by
  obtain ⟨f, fd, ps, hm, hk, F, hb⟩ := F.run
  refine ⟨fun pins s σ H Q I h => ?_⟩
  refine wpAny_Call_Name_kw (ld_glob I hg hm ?_ hdb)
  refine PySem.W.callWith_KW0 (h₀ := X.base) I.ok.mod.kin hk hall ?_ hpl
  refine thn (hkw.run pos pins s σ H _ I h) fun ws s2 ⟨zs, H2, I2, rz, us, e, q2⟩ => ⟨I2.kIn, ?_⟩
  rw [hks]
  subst e
  exact run_fnk (us := []) (vs := []) F hr hb hx I2 .nil rz q2
end
/-! data clear of S -/
mutual
inductive Dq (K : PySem.W.Frag) (S : List Addr) (H : Hp) : V → PyData → Prop
  | non : Dq K S H .non .none
  | bl (b : Bool) : Dq K S H (.bl b) (.bool b)
  | int (i : Int) : Dq K S H (.int i) (.int i)
  | str (x : Str) : Dq K S H (.str x) (.str x)
  | lst {a : Addr} {xs : List V} {ds : List PyData} : a ∉ S → SqL K H a xs → DqAll K S H xs ds → Dq K S H (.ref a) (.list ds)
  | tup {a : Addr} {xs : List V} {ds : List PyData} : SqT K H a xs → DqAll K S H xs ds → Dq K S H (.ref a) (.tuple ds)
inductive DqAll (K : PySem.W.Frag) (S : List Addr) (H : Hp) : List V → List PyData → Prop
  | nil : DqAll K S H [] []
  | cons {v : V} {vs : List V} {d : PyData} {ds : List PyData} : Dq K S H v d → DqAll K S H vs ds → DqAll K S H (v :: vs) (d :: ds)
end
section
variable {K : PySem.W.Frag} {S T : List Addr} {H H1 : Hp}
mutual
theorem Dq.x (e : Ext T H H1) (hT : ∀ x ∈ T, x ∈ S) (hs : ∀ b ∈ T, ∃ l, H b = some (.lst l)) : ∀ {v : V} {d : PyData}, Dq K S H v d → Dq K S H1 v d
  | _, _, .non => .non
  | _, _, .bl b => .bl b
  | _, _, .int i => .int i
  | _, _, .str z => .str z
  | _, _, .lst na h g => .lst na (lstX e h fun q => na (hT _ q)) (DqAll.x e hT hs g)
  | _, _, .tup h g => .tup (tupX e h hs) (DqAll.x e hT hs g)
theorem DqAll.x (e : Ext T H H1) (hT : ∀ x ∈ T, x ∈ S) (hs : ∀ b ∈ T, ∃ l, H b = some (.lst l)) : ∀ {vs : List V} {ds : List PyData}, DqAll K S H vs ds → DqAll K S H1 vs ds
  | _, _, .nil => .nil
  | _, _, .cons h g => .cons (Dq.x e hT hs h) (DqAll.x e hT hs g)
end
mutual
theorem Dq.dp : ∀ {v : V} {d : PyData}, Dq K S H v d → Dp K H v d
  | _, _, .non => .non
  | _, _, .bl b => .bl b
  | _, _, .int i => .int i
  | _, _, .str z => .str z
  | _, _, .lst _ h g => .lst h (DqAll.dp g)
  | _, _, .tup h g => .tup h (DqAll.dp g)
theorem DqAll.dp : ∀ {vs : List V} {ds : List PyData}, DqAll K S H vs ds → DpAll K H vs ds
  | _, _, .nil => .nil
  | _, _, .cons h g => .cons (Dq.dp h) (DqAll.dp g)
end
theorem Dq.x0 (e : Ext [] H H1) {v : V} {d : PyData} (h : Dq K S H v d) : Dq K S H1 v d := h.x e (fun _ z => nomatch z) (fun _ z => nomatch z)
theorem DqAll.x0 (e : Ext [] H H1) {v : List V} {d : List PyData} (h : DqAll K S H v d) : DqAll K S H1 v d := h.x e (fun _ z => nomatch z) (fun _ z => nomatch z)
theorem DqAll.app : ∀ {vs ws : List V} {ds es : List PyData}, DqAll K S H vs ds → DqAll K S H ws es → DqAll K S H (vs ++ ws) (ds ++ es)
  | _, _, _, _, .nil, g => g
  | _, _, _, _, .cons h r, g => .cons h (DqAll.app r g)
theorem DqAll.get : ∀ {vs : List V} {ds : List PyData} {i : Nat} {v : V}, DqAll K S H vs ds → vs[i]? = some v → ∃ d, ds[i]? = some d ∧ Dq K S H v d
  | _, _, 0, _, .cons h _, e => by cases e; exact ⟨_, rfl, h⟩
  | _, _, i + 1, _, .cons _ r, e => DqAll.get (i := i) r e
  | _, _, 0, _, .nil, e => by cases e
  | _, _, _ + 1, _, .nil, e => by cases e
end
end Yk

/-! Rational numbers: what the program's reckoning in lowest terms is worth. -/
namespace Yk
/-- the sum in lowest terms, as the program reckons it -/
theorem add_low (a b : Rat) : (a + b).num = (a.num * ((b.den / Nat.gcd a.den b.den : Nat) : Int) + b.num * ((a.den / Nat.gcd a.den b.den : Nat) : Int)) / ((Nat.gcd (a.num * ((b.den / Nat.gcd a.den b.den : Nat) : Int) + b.num * ((a.den / Nat.gcd a.den b.den : Nat) : Int)).natAbs (Nat.gcd a.den b.den) : Nat) : Int)
    ∧ (a + b).den = a.den / Nat.gcd a.den b.den * (b.den / Nat.gcd (a.num * ((b.den / Nat.gcd a.den b.den : Nat) : Int) + b.num * ((a.den / Nat.gcd a.den b.den : Nat) : Int)).natAbs (Nat.gcd a.den b.den)) := by
  have e : a + b = Rat.add a b := rfl
  rw [e]
  unfold Rat.add
  dsimp only
  by_cases hg : Nat.gcd a.den b.den = 1
  · rw [dif_pos hg]
    simp [hg]
  · rw [dif_neg hg]
    have hmn : ∀ (num : Int) (den g : Nat) (h1 : (g : Int) ∣ num) (h2 : g ∣ den) (h3) (h4), (Rat.maybeNormalize num den g h1 h2 h3 h4).num = num / (g : Int) ∧ (Rat.maybeNormalize num den g h1 h2 h3 h4).den = den / g := by
      intro num den g h1 h2 h3 h4
      unfold Rat.maybeNormalize
      split
      · rename_i q
        subst q
        simp
      · exact ⟨by simp [Int.divExact], by simp [Nat.divExact]⟩
    obtain ⟨e1, e2⟩ := hmn _ _ _ _ _ _ _
    refine ⟨e1, ?_⟩
    rw [e2]
    have hd : Nat.gcd (a.num * ((b.den / Nat.gcd a.den b.den : Nat) : Int) + b.num * ((a.den / Nat.gcd a.den b.den : Nat) : Int)).natAbs (Nat.gcd a.den b.den) ∣ b.den := Nat.dvd_trans (Nat.gcd_dvd_right _ _) (Nat.gcd_dvd_right _ _)
    exact Nat.mul_div_assoc _ hd
theorem mul_low (a b : Rat) : (a * b).num = a.num / ((Nat.gcd a.num.natAbs b.den : Nat) : Int) * (b.num / ((Nat.gcd b.num.natAbs a.den : Nat) : Int)) ∧ (a * b).den = a.den / Nat.gcd b.num.natAbs a.den * (b.den / Nat.gcd a.num.natAbs b.den) := by
  have e : a * b = Rat.mul a b := rfl
  rw [e]
  unfold Rat.mul
  simp [Int.divExact, Nat.divExact]
/-- size: both numbers below 2 ^ n -/
def Sz (n : Nat) (q : Rat) : Prop := q.num.natAbs < 2 ^ n ∧ q.den < 2 ^ n
theorem Sz.mono {m n : Nat} {q : Rat} (h : Sz m q) (e : m ≤ n) : Sz n q := ⟨Nat.lt_of_lt_of_le h.1 (Nat.pow_le_pow_right (by decide) e), Nat.lt_of_lt_of_le h.2 (Nat.pow_le_pow_right (by decide) e)⟩
theorem sz_mk {n : Nat} {q : Rat} {a : Int} {b : Nat} (hb : 0 < b) (e : q = mkRat a b) (h1 : a.natAbs < 2 ^ n) (h2 : b < 2 ^ n) : Sz n q := by
  subst e
  constructor
  · rw [Rat.num_mkRat, if_neg (by omega)]
    have hd : ((Nat.gcd b a.natAbs : Nat) : Int) ∣ a := Int.natAbs_dvd_natAbs.mp (by simpa using Nat.gcd_dvd_right b a.natAbs)
    rw [Int.natAbs_ediv_of_dvd hd]
    refine Nat.lt_of_le_of_lt (Nat.div_le_self _ _) h1
  · rw [Rat.den_mkRat, if_neg (by omega)]
    exact Nat.lt_of_le_of_lt (Nat.div_le_self _ _) h2
theorem sz_add {m n : Nat} {a b : Rat} (ha : Sz m a) (hb : Sz n b) : Sz (m + n + 1) (a + b) := by
  have h1 : (a.num * (b.den : Int)).natAbs < 2 ^ (m + n) := by
    rw [Int.natAbs_mul, Nat.pow_add]
    exact Nat.mul_lt_mul'' ha.1 (by simpa using hb.2)
  have h2 : (b.num * (a.den : Int)).natAbs < 2 ^ (m + n) := by
    rw [Int.natAbs_mul, Nat.pow_add, Nat.mul_comm]
    exact Nat.mul_lt_mul'' (by simpa using ha.2) hb.1
  have h3 : 2 ^ (m + n + 1) = 2 ^ (m + n) + 2 ^ (m + n) := by rw [Nat.pow_succ]; omega
  refine sz_mk (a := a.num * b.den + b.num * a.den) (b := a.den * b.den) (Nat.mul_pos a.den_pos b.den_pos) ?_ ?_ ?_
  · rw [Rat.add_def, Rat.normalize_eq_mkRat]
  · have := Int.natAbs_add_le (a.num * (b.den : Int)) (b.num * (a.den : Int))
    omega
  · have h4 : a.den * b.den < 2 ^ m * 2 ^ n := Nat.mul_lt_mul'' ha.2 hb.2
    rw [← Nat.pow_add] at h4
    omega
theorem sz_mul {m n : Nat} {a b : Rat} (ha : Sz m a) (hb : Sz n b) : Sz (m + n) (a * b) := by
  refine sz_mk (a := a.num * b.num) (b := a.den * b.den) (Nat.mul_pos a.den_pos b.den_pos) ?_ ?_ ?_
  · rw [Rat.mul_def, Rat.normalize_eq_mkRat]
  · rw [Int.natAbs_mul, Nat.pow_add]
    exact Nat.mul_lt_mul'' ha.1 hb.1
  · rw [Nat.pow_add]
    exact Nat.mul_lt_mul'' ha.2 hb.2
theorem sz_neg {n : Nat} {a : Rat} (h : Sz n a) : Sz n (-a) := by
  refine ⟨?_, ?_⟩
  · rw [Rat.neg_num, Int.natAbs_neg]; exact h.1
  · exact h.2
theorem sz_inv {n : Nat} {a : Rat} (h : Sz n a) (h0 : 0 < a) : Sz n a⁻¹ := by
  have h1 : 0 < a.num := by
    have := (Rat.lt_iff 0 a).mp h0
    simpa using this
  refine ⟨?_, ?_⟩
  · rw [Rat.num_inv, Int.sign_eq_one_of_pos h1, Int.one_mul]
    simpa using h.2
  · rw [Rat.den_inv, if_neg (by omega)]
    exact h.1
theorem num_pos' {q : Rat} (h : 0 < q) : 0 < q.num := by
  have := (Rat.lt_iff 0 q).mp h
  simpa using this
theorem num_nn {q : Rat} (h : 0 ≤ q) : 0 ≤ q.num := Rat.num_nonneg.mpr h
theorem inv_parts {q : Rat} (h : 0 < q) : q⁻¹.num = (q.den : Int) ∧ (q⁻¹.den : Int) = q.num := by
  have h1 := num_pos' h
  refine ⟨?_, ?_⟩
  · rw [Rat.num_inv, Int.sign_eq_one_of_pos h1, Int.one_mul]
  · rw [Rat.den_inv, if_neg (by omega)]
    omega
/-- two numbers in lowest terms -/
theorem mk_parts (a b : Nat) (hb : 0 < b) : (mkRat (a : Int) b).num = ((a / Nat.gcd a b : Nat) : Int) ∧ (mkRat (a : Int) b).den = b / Nat.gcd a b := by
  rw [Rat.num_mkRat, Rat.den_mkRat, if_neg (by omega), if_neg (by omega)]
  simp [Nat.gcd_comm]
theorem mk_nn (a b : Nat) : 0 ≤ mkRat (a : Int) b := by
  rcases Nat.eq_zero_or_pos b with h | h
  · subst h; simp
  · have e := (mk_parts a b h).1
    have : 0 ≤ (mkRat (a : Int) b).num := by rw [e]; exact Int.natCast_nonneg _
    exact Rat.num_nonneg.mp this
end Yk
namespace Yk
theorem add_int (p q : Rat) : (p + q).num = (p.num * ((q.den : Int) / ((Nat.gcd p.den q.den : Nat) : Int)) + q.num * ((p.den : Int) / ((Nat.gcd p.den q.den : Nat) : Int))) / ((Nat.gcd (p.num * ((q.den : Int) / ((Nat.gcd p.den q.den : Nat) : Int)) + q.num * ((p.den : Int) / ((Nat.gcd p.den q.den : Nat) : Int))).natAbs (Nat.gcd p.den q.den) : Nat) : Int)
    ∧ ((p + q).den : Int) = (p.den : Int) / ((Nat.gcd p.den q.den : Nat) : Int) * ((q.den : Int) / ((Nat.gcd (p.num * ((q.den : Int) / ((Nat.gcd p.den q.den : Nat) : Int)) + q.num * ((p.den : Int) / ((Nat.gcd p.den q.den : Nat) : Int))).natAbs (Nat.gcd p.den q.den) : Nat) : Int)) := by
  obtain ⟨h1, h2⟩ := add_low p q
  constructor
  · rw [h1]
    simp only [Int.natCast_ediv]
  · rw [h2]
    simp only [Int.natCast_ediv, Int.natCast_mul]
theorem mul_int' (p q : Rat) : (p * q).num = p.num / ((Nat.gcd p.num.natAbs q.den : Nat) : Int) * (q.num / ((Nat.gcd q.num.natAbs p.den : Nat) : Int)) ∧ ((p * q).den : Int) = (p.den : Int) / ((Nat.gcd q.num.natAbs p.den : Nat) : Int) * ((q.den : Int) / ((Nat.gcd p.num.natAbs q.den : Nat) : Int)) := by
  obtain ⟨h1, h2⟩ := mul_low p q
  refine ⟨h1, ?_⟩
  rw [h2]
  simp only [Int.natCast_ediv, Int.natCast_mul]
theorem abs_div_le (a b : Int) (hb : 0 < b) : (a / b).natAbs ≤ a.natAbs := by
  have h1 := Int.natAbs_ediv_le_natAbs a b
  exact h1
end Yk
namespace Yk
def cmpQ' (p q : Rat) : Int := if p < q then -1 else if q < p then 1 else 0
theorem cmp_add (p q r : Rat) : cmpQ' (p + r) (q + r) = cmpQ' p q := by
  unfold cmpQ'
  have h1 : p + r < q + r ↔ p < q := Rat.add_lt_add_right
  have h2 : q + r < p + r ↔ q < p := Rat.add_lt_add_right
  simp only [h1, h2]
theorem cmp_more (p r : Rat) (hr : 0 ≤ r) : cmpQ' (p + r) p = if 0 < r then 1 else 0 := by
  unfold cmpQ'
  by_cases h : 0 < r
  · rw [if_neg (by grind), if_pos (by grind), if_pos h]
  · rw [if_neg (by grind), if_neg (by grind), if_neg h]
theorem cmp_mul (p q r : Rat) (hr : 0 ≤ r) : cmpQ' (p * r) (r * q) = if 0 < r then cmpQ' p q else 0 := by
  rw [Rat.mul_comm r q]
  unfold cmpQ'
  by_cases h : 0 < r
  · have h1 : p * r < q * r ↔ p < q := Rat.mul_lt_mul_right h
    have h2 : q * r < p * r ↔ q < p := Rat.mul_lt_mul_right h
    simp only [h1, h2, if_pos h]
  · have e : r = 0 := by grind
    subst e
    simp
theorem add_nn {a b : Rat} (h1 : 0 ≤ a) (h2 : 0 ≤ b) : 0 ≤ a + b := Rat.add_nonneg h1 h2
theorem mul_nn {a b : Rat} (h1 : 0 ≤ a) (h2 : 0 ≤ b) : 0 ≤ a * b := Rat.mul_nonneg h1 h2
theorem r_sub1 (p q : Rat) : p + q - q = p := by grind
theorem r_sub2 (p q r : Rat) : p + q + r - (r + q) = p := by grind
theorem r_sub3 (p : Rat) : p - p = 0 := by grind
theorem r_div1 {p q : Rat} (h : 0 < q) : p * q / q = p := by grind
theorem r_div2 {p q : Rat} (h : 0 < q) : p / q * q = p := by grind
theorem r_div3 {q : Rat} (h : 0 < q) : q / q = 1 := by grind
theorem r_dist (p q r : Rat) : p * q + p * r = p * (q + r) := by grind
theorem le1 {p q : Rat} (h : 0 ≤ p) : q ≤ p + q := by grind
theorem le2 {p q r : Rat} (h : 0 ≤ p) : r + q ≤ p + q + r := by grind
theorem num_pos_iff {r : Rat} (h : 0 ≤ r) : 0 < r.num ↔ 0 < r := by
  constructor
  · intro h1
    exact (Rat.lt_iff 0 r).mpr (by simpa using h1)
  · exact num_pos'
theorem sz_div {m n : Nat} {a b : Rat} (ha : Sz m a) (hb : Sz n b) (h : 0 < b) : Sz (m + n) (a / b) := by
  rw [Rat.div_def]
  exact sz_mul ha (sz_inv hb h)
end Yk

set_option maxHeartbeats 1000000
namespace Yk
open PySem PySem.Spec PyProof.Rows L2
def top (i : Nat) : Stmt := PySem.Challenge.pw_bandheld_k00_amounts_reckoned.main.body.getD i (.Pass ⟨0, 0, 0, 0⟩)
structure Bt (mg : Str → Option Value) : Prop where
  int : mg "int" = none
  len : mg "len" = none
  list : mg "list" = none
  tuple : mg "tuple" = none
  str : mg "str" = none
  bool : mg "bool" = none
  max : mg "max" = none
  min : mg "min" = none
  all : mg "all" = none
  any : mg "any" = none
  sum : mg "sum" = none
  isinstance : mg "isinstance" = none
  zip : mg "zip" = none
  range : mg "range" = none
  divmod : mg "divmod" = none
structure Bg (mg : Str → Option Value) : Prop extends Bt mg where
  gcd : mg "gcd" = some (.builtin "math.gcd")
/-- an amount: its two numbers in a tuple -/
def Am (K : PySem.W.Frag) (H : Hp) (v : V) (q : Rat) : Prop := ∃ a, v = .ref a ∧ SqT K H a [.int q.num, .int (q.den : Int)]
theorem Am.x {S : List Addr} {K : PySem.W.Frag} {H H1 : Hp} {v : V} {q : Rat} (e : Ext S H H1) (h : Am K H v q) (hs : ∀ b ∈ S, ∃ l, H b = some (.lst l)) : Am K H1 v q := by
  obtain ⟨a, rfl, h⟩ := h
  exact ⟨a, rfl, tupX e h hs⟩
theorem Am.x0 {K : PySem.W.Frag} {H H1 : Hp} {v : V} {q : Rat} (e : Ext [] H H1) (h : Am K H v q) : Am K H1 v q := h.x e fun _ z => nomatch z
/-- what an amount's promise hands back -/
def RetAm (K : PySem.W.Frag) (H : Hp) (Q : VK) (q : Rat) : Prop := ∀ v H', Ext [] H H' → Am K H' v q → Q v H'
def spAdded (K : PySem.W.Frag) : Sp := fun vs H Q _ => ∃ v1 v2 p q, vs = [v1, v2] ∧ Am K H v1 p ∧ Am K H v2 q ∧ Sz 4000 p ∧ Sz 4000 q ∧ RetAm K H Q (p + q)
end Yk
namespace Yk
open PySem PySem.Spec PyProof.Rows L2
theorem cdiv {n : Nat} {i : Int} {b : Nat} (h0 : 0 < b) (hb : b < 2 ^ n) (hn : 0 < n) (h9 : n ≤ 9000) : CDivW i (b : Int) := wide_div (by omega) (by simpa using hb) hn h9
theorem cmul {m n : Nat} {i j : Int} (hi : i.natAbs < 2 ^ m) (hj : j.natAbs < 2 ^ n) (h0 : 0 < m) (h1 : 0 < n) (h : m + n ≤ 1000000) : CMulW i j := wide_mul hi hj h0 h1 h
theorem dlt {n : Nat} {a b : Int} (h : a.natAbs < 2 ^ n) : (a / b).natAbs < 2 ^ n := Nat.lt_of_le_of_lt (Int.natAbs_ediv_le_natAbs a b) h
end Yk
namespace Yk
open PySem PySem.Spec PyProof.Rows L2
/-- a row of amounts -/
def Ams (K : PySem.W.Frag) (H : Hp) (vs : List V) (qs : List Rat) : Prop := vs.length = qs.length ∧ ∀ (i : Nat) (v : V) (q : Rat), vs[i]? = some v → qs[i]? = some q → Am K H v q
theorem Ams.x {S : List Addr} {K : PySem.W.Frag} {H H1 : Hp} {vs : List V} {qs : List Rat} (e : Ext S H H1) (h : Ams K H vs qs) (hs : ∀ b ∈ S, ∃ l, H b = some (.lst l)) : Ams K H1 vs qs := ⟨h.1, fun i v q a b => (h.2 i v q a b).x e hs⟩
theorem Ams.x0 {K : PySem.W.Frag} {H H1 : Hp} {vs : List V} {qs : List Rat} (e : Ext [] H H1) (h : Ams K H vs qs) : Ams K H1 vs qs := h.x e fun _ z => nomatch z
theorem Ams.at_ {K : PySem.W.Frag} {H : Hp} {vs : List V} {qs : List Rat} (h : Ams K H vs qs) {i : Nat} {v : V} (hv : vs[i]? = some v) : ∃ q, qs[i]? = some q ∧ Am K H v q := by
  have hi : i < qs.length := by rw [← h.1]; exact (List.getElem?_eq_some_iff.mp hv).1
  exact ⟨qs[i], List.getElem?_eq_getElem hi, h.2 i v _ hv (List.getElem?_eq_getElem hi)⟩
theorem Ams.nil {K : PySem.W.Frag} {H : Hp} : Ams K H [] [] := ⟨rfl, fun i v q h => by simp at h⟩
theorem Ams.cons {K : PySem.W.Frag} {H : Hp} {v : V} {q : Rat} {vs : List V} {qs : List Rat} (h : Am K H v q) (r : Ams K H vs qs) : Ams K H (v :: vs) (q :: qs) := by
  refine ⟨by simp [r.1], fun i w u a b => ?_⟩
  cases i with
  | zero =>
    simp at a b
    subst a b
    exact h
  | succ i =>
    simp at a b
    exact r.2 i w u a b
/-- the smallest, the largest of a row -/
def minQ (p : Rat) (qs : List Rat) : Rat := qs.foldl (fun m q => if q < m then q else m) p
def maxQ (p : Rat) (qs : List Rat) : Rat := qs.foldl (fun m q => if m < q then q else m) p
theorem fold_take {α : Type} {f : α → Rat → α} {z : α} {qs : List Rat} {i : Nat} {q : Rat} (h : qs[i]? = some q) : (qs.take (i + 1)).foldl f z = f ((qs.take i).foldl f z) q := by
  obtain ⟨hl, e⟩ := List.getElem?_eq_some_iff.mp h
  rw [← List.take_append_getElem hl, List.foldl_append, e]
  rfl
theorem minQ_mem {m : Nat} {p : Rat} : ∀ {qs : List Rat}, Sz m p → (∀ q ∈ qs, Sz m q) → Sz m (minQ p qs)
  | [], h, _ => h
  | q :: r, h, hq => by
    show Sz m (minQ (if q < p then q else p) r)
    refine minQ_mem ?_ fun x hx => hq x (List.mem_cons_of_mem _ hx)
    split
    · exact hq q List.mem_cons_self
    · exact h
theorem maxQ_mem {m : Nat} {p : Rat} : ∀ {qs : List Rat}, Sz m p → (∀ q ∈ qs, Sz m q) → Sz m (maxQ p qs)
  | [], h, _ => h
  | q :: r, h, hq => by
    show Sz m (maxQ (if p < q then q else p) r)
    refine maxQ_mem ?_ fun x hx => hq x (List.mem_cons_of_mem _ hx)
    split
    · exact hq q List.mem_cons_self
    · exact h
end Yk
namespace Yk
open PySem PySem.Spec PyProof.Rows L2
/-- what five numbers the bag may hold -/
def Bag5 (ns : List Int) (it : Addr) (l : List V) : Prop := ∃ (pos : Nat) (rest seed cnt : Int), l = [.ref it, .int (pos : Int), .int rest, .int seed, .int cnt] ∧ pos ≤ ns.length ∧ 0 ≤ rest ∧ 0 ≤ seed ∧ seed < 2147483629
structure Bag where
  a : Addr
  it : Addr
  ns : List Int
structure BagAt (K : PySem.W.Frag) (H : Hp) (b : Bag) : Prop where
  ex : ∃ l : List V, H b.a = some (.lst l) ∧ SqL K H b.it (b.ns.map V.int) ∧ b.ns.length ≤ 63 ∧ Bag5 b.ns b.it l
theorem BagAt.lst {K : PySem.W.Frag} {H : Hp} {b : Bag} (h : BagAt K H b) : ∃ l, H b.a = some (.lst l) := by
  obtain ⟨l, h1, _⟩ := h.ex
  exact ⟨l, h1⟩
theorem BagAt.x0 {K : PySem.W.Frag} {H H1 : Hp} {b : Bag} (h : BagAt K H b) (e : Ext [] H H1) : BagAt K H1 b := by
  obtain ⟨l, h1, h2, h3, h4⟩ := h.ex
  exact ⟨l, e _ _ h1 (fun z => nomatch z), lst0 e h2, h3, h4⟩
theorem BagAt.new {K : PySem.W.Frag} {H : Hp} {b : Bag} {p : Addr} {o : HO} (h : BagAt K H b) (hp : H p = none) : BagAt K (upd H p o) b := h.x0 (Ext.refl.new hp)
theorem BagAt.ne {K : PySem.W.Frag} {H : Hp} {b : Bag} {p : Addr} (h : BagAt K H b) (hp : H p = none) : b.a ≠ p := by
  obtain ⟨l, q⟩ := h.lst
  exact ne_of_none q hp
theorem BagAt.ne' {K : PySem.W.Frag} {H : Hp} {b : Bag} {p : Addr} (hp : H p = none) (h : BagAt K H b) : b.a ≠ p := h.ne hp
/-- what was new to a heap with the bag may change later -/
theorem BagAt.own {K : PySem.W.Frag} {H0 H : Hp} {b : Bag} {p : Addr} {o : HO} (h0 : BagAt K H0 b) (hp : H0 p = none) (h : BagAt K H b) : BagAt K (upd H p o) b := by
  obtain ⟨l0, a0, a1, _, _⟩ := h0.ex
  obtain ⟨l, h1, h2, h3, h4⟩ := h.ex
  refine ⟨l, by rw [upd_ne (ne_of_none a0 hp)]; exact h1, ?_, h3, h4⟩
  rcases a1 with a1 | a1
  · have hne : b.it ≠ p := by
      rcases a1 with a1 | ⟨u, a1⟩
      · exact ne_of_none a1 hp
      · exact ne_of_none a1 hp
    rcases h2 with (h2 | ⟨u, h2⟩) | h2
    · exact .inl (.inl (by rw [upd_ne hne]; exact h2))
    · exact .inl (.inr ⟨u, by rw [upd_ne hne]; exact h2⟩)
    · exact .inr h2
  · exact .inr a1
theorem tupB {K : PySem.W.Frag} {H H1 : Hp} {a : Addr} {b : Bag} {xs : List V} (hb : BagAt K H b) (e : Ext [b.a] H H1) (h : SqT K H a xs) : SqT K H1 a xs := tupX e h fun c hc => by rw [List.mem_singleton.mp hc]; exact hb.lst
theorem Am.b {K : PySem.W.Frag} {H H1 : Hp} {b : Bag} {v : V} {q : Rat} (hb : BagAt K H b) (e : Ext [b.a] H H1) (h : Am K H v q) : Am K H1 v q := h.x e fun c hc => by rw [List.mem_singleton.mp hc]; exact hb.lst
theorem Am.b' {K : PySem.W.Frag} {H H1 : Hp} {b : Bag} {v : V} {q : Rat} (e : Ext [b.a] H H1) (hb : BagAt K H b) (h : Am K H v q) : Am K H1 v q := h.b hb e
theorem Ams.b {K : PySem.W.Frag} {H H1 : Hp} {b : Bag} {v : List V} {q : List Rat} (hb : BagAt K H b) (e : Ext [b.a] H H1) (h : Ams K H v q) : Ams K H1 v q := h.x e fun c hc => by rw [List.mem_singleton.mp hc]; exact hb.lst
theorem Am.n {K : PySem.W.Frag} {H : Hp} {p : Addr} {o : HO} {v : V} {q : Rat} (h : Am K H v q) (hp : H p = none) : Am K (upd H p o) v q := h.x0 (Ext.refl.new hp)
theorem am_lit {K : PySem.W.Frag} {H : Hp} {a : Addr} {n : Int} {d : Nat} (hd : d ≠ 0) (hc : n.natAbs.Coprime d) (h : SqT K H a [.int n, .int (d : Int)]) : Am K H (.ref a) ⟨n, d, hd, hc⟩ := ⟨a, rfl, h⟩
end Yk

open PySem PySem.Spec PyProof.Rows L2 Yk
local macro_rules | `(tactic| walk_at "sq") => `(tactic| first
  | assumption
  | exact tupS
  | exact lstS
  | ((refine' tupN ?h1 (by assumption)); (case h1 => walk_at "sq"))
  | ((refine' lstN ?h1 (by assumption)); (case h1 => walk_at "sq"))
  | ((refine' tup0 (by assumption) ?h1); (case h1 => walk_at "sq"))
  | ((refine' lst0 (by assumption) ?h1); (case h1 => walk_at "sq")))
local macro_rules | `(tactic| walk_at "side") => `(tactic| first | assumption | decide | omega | exact Or.inr ⟨by decide, by decide⟩ | exact ⟨by decide, by decide, by decide⟩ | exact ⟨by decide, by decide +kernel⟩)
local macro_rules | `(tactic| walk_at "ty") => `(tactic| first
  | exact TyX.base TyOf.non
  | exact TyX.base (TyOf.bl _)
  | exact TyX.base (TyOf.int _)
  | exact TyX.base (TyOf.str _)
  | ((refine' tyT ?h1); (case h1 => walk_at "sq"))
  | ((refine' tyL ?h1); (case h1 => walk_at "sq")))
local macro_rules | `(tactic| walk_at "st") => `(tactic| first
  | with_reducible refine' r_seq ?_
  | with_reducible refine' r_asg ?_
  | with_reducible refine' r_ret ?_
  | with_reducible refine' r_drop ?_
  | with_reducible refine' r_ifS ?_
  | with_reducible refine' r_par ?_
  | with_reducible refine' r_name ?_
  | with_reducible refine' r_gCons ?_
  | with_reducible refine' r_gNil ?_
  | with_reducible refine' r_gSub ?_
  | ((with_reducible refine' r_gTup ?h1 ?h2 ?h3); (case h1 => walk_at "sq"); (case h2 => rfl))
  | with_reducible refine' r_op ?_
  | with_reducible refine' r_un ?_
  | with_reducible refine' r_c ?_
  | ((with_reducible refine' r_var ?h1 ?h2); (case h1 => rfl))
  | with_reducible refine' r_I0 ?_
  | with_reducible refine' r_U ?_
  | ((with_reducible refine' r_I ?h1 ?h2); (case h1 => walk_at "side"))
  | ((with_reducible refine' r_ixT ?h1 ?h2 ?h3); (case h1 => walk_at "sq"); (case h2 => rfl))
  | ((with_reducible refine' r_ixL ?h1 ?h2 ?h3); (case h1 => walk_at "sq"); (case h2 => rfl))
  | with_reducible refine' r_cons ?_
  | with_reducible refine' r_nil ?_
  | with_reducible refine' r_tup ?_
  | with_reducible refine' r_lst ?_
  | with_reducible refine' r_CB ?_
  | with_reducible refine' r_R ?_
  | with_reducible refine' r_R1 ?_
  | with_reducible refine' r_star ?_
  | with_reducible refine' r_RS ?_
  | with_reducible refine' r_RX ?_
  | with_reducible refine' r_gcd ?_
  | ((with_reducible refine' r_aug ?h1 ?h2); (case h1 => rfl))
  | with_reducible refine' r_ipI ?_
  | ((with_reducible refine' r_app ?h1 ?h2 ?h3); (case h1 => assumption); (case h2 => first | assumption | omega))
  | with_reducible refine' r_test ?_
  | with_reducible refine' r_B ?_
  | with_reducible refine' r_bl ?_
  | with_reducible refine' r_if ?_
  | with_reducible refine' r_and ?_
  | with_reducible refine' r_or ?_
  | with_reducible refine' r_not ?_
  | with_reducible refine' r_next ?_
  | with_reducible refine' r_int ?_
  | with_reducible refine' r_exI ?_
  | with_reducible refine' r_andV ?_
  | with_reducible refine' r_orV ?_
  | with_reducible refine' r_notV ?_
  | ((with_reducible refine' r_isi ?h1 ?h2 ?h3); (case h1 => walk_at "ty"); (case h2 => rfl))
  | ((with_reducible refine' r_isiT ?h1 ?h2 ?h3 ?h4); (case h1 => exact upd_same); (case h2 => walk_at "ty"); (case h3 => rfl))
  | with_reducible refine' And.intro (rfl : V.non = V.non) ?_
  | with_reducible refine' r_BM ?_
  | with_reducible refine' r_BM0 ?_
  | with_reducible refine' r_lc ?_
  | with_reducible refine' r_yes ?_
  | with_reducible refine' r_tt ?_
  | with_reducible refine' r_iRng1 ?_
  | with_reducible refine' r_iList ?_
  | with_reducible refine' r_iTup ?_
  | with_reducible refine' r_iZip ?_
  | ((with_reducible refine' r_gUnl ?h1 ?h2 ?h3); (case h1 => walk_at "sq"); (case h2 => rfl))
  | with_reducible refine' r_slL ?_
  | with_reducible refine' r_noP ?_
  | with_reducible refine' r_part ?_
  | ((with_reducible refine' r_len ?h1 ?h2); (case h1 => (first | (refine Or.inl ?_; walk_at "sq") | (refine Or.inr ?_; walk_at "sq"))))
  | ((with_reducible refine' r_eq ?h1 ?h2); (case h1 => rfl))
  | ((with_reducible refine' r_ne ?h1 ?h2); (case h1 => rfl))
  | ((with_reducible refine' And.intro ?h1 ?h2); (case h1 => (simp only [List.length_cons, List.length_nil, List.length_map]; decide)); (intro np hnp))
  | ((with_reducible refine' Exists.intro _ (Exists.intro _ (And.intro ?h1 ?h2))); (case h1 => (show ([_, _] : List V) = [_, _]; rfl)))
  | ((with_reducible refine' Exists.intro _ (And.intro ?h1 ?h2)); (case h1 => (first | (show ([_] : List V) = arr _ _ _ _ _; rfl) | (show ([_, _] : List V) = arr _ _ _ _ _; rfl) | (show ([_, _, _] : List V) = arr _ _ _ _ _; rfl)))))
local macro_rules | `(tactic| walk_at "go") => `(tactic| repeat walk_at "st")
local macro_rules | `(tactic| walk_at "bag") => `(tactic| first
  | assumption
  | (refine BagAt.new ?_ (by assumption); walk_at "bag")
  | (refine BagAt.x0 ?_ (by assumption); walk_at "bag"))
local macro_rules | `(tactic| walk_at "ext") => `(tactic| first
  | assumption
  | exact Ext.refl
  | (refine Ext.new ?_ (by assumption); walk_at "ext")
  | (refine Ext.trans ?_ (by assumption); walk_at "ext"))
local macro_rules | `(tactic| walk_at "ams") => `(tactic| first
  | exact Ams.nil
  | (refine Ams.cons ?_ ?_; (first | assumption | (refine am_lit _ _ ?_; walk_at "sq")); walk_at "ams"))
local macro_rules | `(tactic| walk_at "br") => `(tactic| first
  | ((with_reducible refine' r_true ?h1 ?h2); (case h1 => rfl))
  | ((with_reducible refine' r_false ?h1 ?h2); (case h1 => rfl)))
local macro_rules | `(tactic| walk_at "run") => `(tactic| repeat (first | walk_at "st" | walk_at "br"))
local macro_rules | `(tactic| walk_at "am") => `(tactic| first
  | assumption
  | (refine Am.x0 (by assumption) ?_; walk_at "am")
  | (refine Am.n ?_ (by assumption); walk_at "am")
  | (refine Am.b' (by assumption) (by assumption) ?_; walk_at "am"))
set_option maxHeartbeats 1000000
/-! A head whose part of the heap is told by a written list of addresses; its run's looks in pieces. -/
namespace Hk
open PySem PySem.Spec PyProof.Rows L2 He
/-- a def that stands at a path of the part -/
structure DefP where
  path : PySem.W.Frag → Addr
  name : Str
  qual : Str
  params : Arguments
  body : List Stmt
  scope : Scope
  dfl : List Dv := []
  kwd : List (Str × Dv) := []
def DefP.val (d : DefP) : FnW := some (d.name, d.qual, d.params, .stmts d.body, d.scope, mainGlobals, [], builtinsNs)
def DefP.dvs (K : PySem.W.Frag) (d : DefP) : List V := d.dfl.map (Dv.v K)
def DefP.kws (K : PySem.W.Frag) (d : DefP) : List (Str × V) := d.kwd.map fun q => (q.1, q.2.v K)
def seen (K : PySem.W.Frag) (a : Addr) : FnW := match K.lookup a with
  | some o => (match o.data with
    | .func u => some (u.name, u.qualname, u.params, u.body, u.scope, u.globals, u.closure, u.builtins)
    | _ => none)
  | none => none
def good (K : PySem.W.Frag) (d : DefP) (a : Addr) : Bool := PySem.W.keepIn K (.ref a) && match K.lookup a with
  | some o => (match o.data with
    | .func u => PySem.W.codeIn K u.code d.qual && (dflB K u.defaults (d.dvs K) && kwdB K u.kwdefaults (d.kws K))
    | _ => false)
  | none => false
theorem funD_of {K : PySem.W.Frag} {d : DefP} (e : seen K (d.path K) = d.val) (c : good K d (d.path K) = true) : ∃ fd, FunD K d.name d.qual d.params d.body d.scope (d.dvs K) (d.kws K) (d.path K) fd := by
  obtain ⟨kp, c2⟩ := Bool.and_eq_true_iff.mp c
  unfold seen at e
  generalize ha : d.path K = a at *
  cases q : K.lookup a with
  | none => simp only [q] at c2; cases c2
  | some o =>
    simp only [q] at c2 e
    obtain ⟨oc, od, dt, osl⟩ := o
    cases dt with
    | func fd =>
      dsimp only at c2 e
      obtain ⟨k1, k2⟩ := Bool.and_eq_true_iff.mp c2
      obtain ⟨k3, k4⟩ := Bool.and_eq_true_iff.mp k2
      obtain ⟨m1, m2, m3, m4, m5, m6, m7, m8, m9, m10, m11, m12, m13, m14, m15⟩ := fd
      unfold DefP.val at e
      dsimp only at e k1 k3 k4
      injection e with e
      injection e with e1 e; injection e with e2 e; injection e with e3 e; injection e with e4 e; injection e with e5 e; injection e with e6 e; injection e with e7 e8
      subst e1 e2 e3 e4 e5 e6 e7 e8
      exact ⟨_, ⟨oc, od, m8, m9, m10, m11, m12, m13, m14, osl, rfl, q, k1, dflB_ok k3, kwdB_ok k4⟩, kp⟩
    | _ => dsimp only at c2; cases c2
abbrev Al : Type := Bool × List FnW
def look (as : List Addr) (fa : List Fa) (fn : List DefP) (ex : PySem.W.Frag → Bool) (K : PySem.W.Frag) : Al := ((fa.all fun f => f.ok K) && ((fn.all fun d => good K d (d.path K)) && ex K), fn.map fun d => seen K (d.path K))
def due (fn : List DefP) : Al := (true, fn.map DefP.val)
structure Says (fa : List Fa) (fn : List DefP) (ex : PySem.W.Frag → Bool) (K : PySem.W.Frag) : Prop where
  fact : ∀ (i : Nat) (f : Fa), fa[i]? = some f → f.ok K = true
  def_ : ∀ (i : Nat) (d : DefP), fn[i]? = some d → ∃ fd, FunD K d.name d.qual d.params d.body d.scope (d.dvs K) (d.kws K) (d.path K) fd
  more : ex K = true
theorem says_of {as : List Addr} {fa : List Fa} {fn : List DefP} {ex : PySem.W.Frag → Bool} {K : PySem.W.Frag} (e : look as fa fn ex K = due fn) : Says fa fn ex K := by
  have e1 : ((fa.all fun f => f.ok K) && ((fn.all fun d => good K d (d.path K)) && ex K)) = true := congrArg (·.1) e
  have e2 : (fn.map fun d => seen K (d.path K)) = fn.map DefP.val := congrArg (·.2) e
  obtain ⟨h1, h⟩ := Bool.and_eq_true_iff.mp e1
  obtain ⟨h2, h3⟩ := Bool.and_eq_true_iff.mp h
  refine ⟨fun i f hf => List.all_eq_true.mp h1 f (List.mem_of_getElem? hf), fun i d hd => funD_of ?_ (List.all_eq_true.mp h2 d (List.mem_of_getElem? hd)), h3⟩
  have e3 := congrArg (fun l : List FnW => l[i]?) e2
  rw [List.getElem?_map, List.getElem?_map, hd] at e3
  exact Option.some.inj e3
/-- by the written addresses -/
def obG (as : List Addr) (fa : List Fa) (fn : List DefP) (ex : PySem.W.Frag → Bool) (g : Addr → Option Obj) : Al := look as fa fn ex (frG g as)
def hook (as : List Addr) (fa : List Fa) (fn : List DefP) (ex : PySem.W.Frag → Bool) : PySem.W.Hook where
  α := Al
  obs := fun s => obG as fa fn ex s.heap.get?
  val := fun _ => due fn
  says := fun _ h => ∃ K : PySem.W.Frag, K.In h ∧ Says fa fn ex K
  of := fun _ _ e => ⟨_, frG_in, says_of e⟩
  keeps := fun _ _ _ ⟨K, hK, c⟩ k => ⟨K, PySem.W.Frag.In.keeps hK k, c⟩
theorem obG_eq {as : List Addr} {fa : List Fa} {fn : List DefP} {ex : PySem.W.Frag → Bool} {g : Addr → Option Obj} {s : Shared} (h : ∀ a, g a = s.heap.get? a) : obG as fa fn ex g = (hook as fa fn ex).obs s := by
  have e : g = s.heap.get? := funext h
  rw [e]
  rfl
end Hk
namespace Hk
open PySem PySem.W PySem.Spec PyProof.Rows L2 He HandSHeadRun
/-- the def behind a property -/
def getter (K : PySem.W.Frag) (p : Addr) : Addr := match PySem.W.recIn K p "property" with
  | some (.ref g :: _) => g
  | _ => 0
noncomputable abbrev whole (r : OpenRow) (M : Nat) (w : World) := wholeF (fun p => stepQ (denQ tabQ) p w) fenceQ M r.prog
/-- one look at the run's end -/
def At {α : Type} (r : OpenRow) (M : Nat) (w : World) (f : Shared × SharedT → α) (v : α) : Prop := (whole r M w).map f = some v
theorem At.and {r : OpenRow} {M : Nat} {w : World} {f g : Shared × SharedT → Bool} (a : At r M w f true) (b : At r M w g true) : At r M w (fun x => f x && g x) true := by
  obtain ⟨x, hx, ex⟩ := Option.map_eq_some_iff.mp a
  obtain ⟨y, hy, ey⟩ := Option.map_eq_some_iff.mp b
  rw [hx] at hy
  cases hy
  exact Option.map_eq_some_iff.mpr ⟨x, hx, by rw [ex, ey]; rfl⟩
theorem join {r : OpenRow} {q : Program} {M : Nat} {loose : List Str} {w : World} {as : List Addr} {fa : List Fa} {fn : List DefP} {ex : Frag → Bool}
    (a : At r M w (fun x => obG as fa fn ex (getT x.2)) (due fn)) (b : At r M w (fun x => staticsOk (importedModules r.prog.main.body) x.1.heap x.2.abs.heap && laidKept x.1.heap x.2.abs.heap) true)
    (b2 : At r M w (fun x => namesBound r.prog x.2.abs.heap && gensDone x.2.abs) true)
    (c : At r M w (fun x => seenQ q loose (importedModules r.prog.main.body) (fun s => xlAt q [] s && recOk r.toRowW.records s) x.2.abs) (openGood q loose)) : RunEqI r q (hook as fa fn ex) (fun s => obG as fa fn ex (getT s)) M loose w := by
  obtain ⟨x, hx, e1⟩ := Option.map_eq_some_iff.mp a
  obtain ⟨x2, hx2, e2⟩ := Option.map_eq_some_iff.mp b
  obtain ⟨x3, hx3, e3⟩ := Option.map_eq_some_iff.mp b2
  obtain ⟨x4, hx4, e4⟩ := Option.map_eq_some_iff.mp c
  rw [hx] at hx2 hx3 hx4
  cases hx2
  cases hx3
  cases hx4
  obtain ⟨p1, p2⟩ := Bool.and_eq_true_iff.mp e2
  obtain ⟨p3, p4⟩ := Bool.and_eq_true_iff.mp e3
  refine Option.map_eq_some_iff.mpr ⟨x, hx, ?_⟩
  have l : looksF r.prog x.1.heap x.2.abs = true := by
    unfold looksF
    rw [p1, p2, p3, p4]
    rfl
  rw [l, e4]
  exact congrArg (fun z => (true, openGood q loose, z)) e1
end Hk
namespace Hk
open PySem PySem.W PySem.Spec PyProof.Rows L2 He
/-- the class x has the name f as a property -/
def propB (K : Frag) (x f : Str) : Bool := eqO (findIn K (.ref (ga K x)) f) (some (some (.ref (ma K (ga K x) f)))) && (eqO (specialIn K (.ref (ma K (ga K x) f)) "__get__") (some (some (.builtin "property.__get__"))) &&
  (decide (takesIn K (.ref (ma K (ga K x) f)) = some true) && (match recIn K (ma K (ga K x) f) "property" with
    | some (.ref _ :: _) => true
    | _ => false)))
theorem propB_ok {K : Frag} {x f : Str} (h : propB K x f = true) : PropOf K (ga K x) f (ma K (ga K x) f) (getter K (ma K (ga K x) f)) := by
  obtain ⟨h1, h⟩ := Bool.and_eq_true_iff.mp h
  obtain ⟨h2, h⟩ := Bool.and_eq_true_iff.mp h
  obtain ⟨h3, h4⟩ := Bool.and_eq_true_iff.mp h
  refine ⟨eqO_ok h1, eqO_ok h2, of_decide_eq_true h3, ?_⟩
  unfold getter
  cases e : recIn K (ma K (ga K x) f) "property" with
  | none => rw [e] at h4; cases h4
  | some l =>
    rw [e] at h4
    cases l with
    | nil => cases h4
    | cons v r =>
      cases v with
      | ref g => exact ⟨r, rfl⟩
      | _ => cases h4
end Hk

set_option maxHeartbeats 1000000
/-! A hook and an end for a law one of whose defs makes a lambda: the table in its code object is told apart. -/
namespace Hk
open PySem PySem.Spec PyProof.Rows L2 He
def obGT (as : List Addr) (fa : List Fa) (fn : List DefP) (tf : List Defn) (ex : PySem.W.Frag → Bool) (g : Addr → Option Obj) : Al × Bool := (look as fa fn ex (frT g as), tabsB g tf (frT g as))
structure SaysTb (fa : List Fa) (fn : List DefP) (tf : List Defn) (ex : PySem.W.Frag → Bool) (h : Heap) (K : PySem.W.Frag) : Prop where
  s : Says fa fn ex K
  hd : ∀ d ∈ tf, PySem.W.codeHdIn K (cT K d).1 (cT K d).2 = true
  out : ∀ d ∈ tf, K.lookup (cT K d).2 = none
  empty : ∀ d ∈ tf, h.get? (cT K d).2 = some { cls := .none, data := .fields #[] }
theorem saysTb_of {as : List Addr} {fa : List Fa} {fn : List DefP} {tf : List Defn} {ex : PySem.W.Frag → Bool} {h : Heap} (e : obGT as fa fn tf ex h.get? = (due fn, true)) : SaysTb fa fn tf ex h (frT h.get? as) := by
  have e1 : look as fa fn ex (frT h.get? as) = due fn := congrArg (·.1) e
  have e2 : tabsB h.get? tf (frT h.get? as) = true := congrArg (·.2) e
  generalize hK : frT h.get? as = K at *
  have tab : ∀ p ∈ tf, PySem.W.codeHdIn K (cT K p).1 (cT K p).2 = true ∧ ∃ o, h.get? (cT K p).2 = some o ∧ emptyTab o = true := fun p hp => by
    obtain ⟨a, b⟩ := Bool.and_eq_true_iff.mp (List.all_eq_true.mp e2 p hp)
    cases q : h.get? (cT K p).2 with
    | none => rw [q] at b; cases b
    | some o => rw [q] at b; exact ⟨a, o, rfl, b⟩
  refine ⟨says_of e1, fun p hp => (tab p hp).1, fun p hp => ?_, fun p hp => ?_⟩
  · obtain ⟨_, o, q, z⟩ := tab p hp
    have := frT_none (as := as) q z
    rwa [hK] at this
  · obtain ⟨_, o, q, z⟩ := tab p hp
    rw [q, emptyTab_eq z]
def hookT (as : List Addr) (fa : List Fa) (fn : List DefP) (tf : List Defn) (ex : PySem.W.Frag → Bool) : PySem.W.Hook where
  α := Al × Bool
  obs := fun s => obGT as fa fn tf ex s.heap.get?
  val := fun _ => (due fn, true)
  says := fun _ h => ∃ K : PySem.W.Frag, K.In h ∧ SaysTb fa fn tf ex h K
  of := fun _ _ e => ⟨_, frT_in, saysTb_of e⟩
  keeps := fun _ _ _ ⟨K, hK, c⟩ k => ⟨K, PySem.W.Frag.In.keeps hK k, c.s, c.hd, c.out, fun p hp => k _ _ (c.empty p hp)⟩
theorem obGT_eq {as : List Addr} {fa : List Fa} {fn : List DefP} {tf : List Defn} {ex : PySem.W.Frag → Bool} {g : Addr → Option Obj} {s : Shared} (h : ∀ a, g a = s.heap.get? a) : obGT as fa fn tf ex g = (hookT as fa fn tf ex).obs s := by
  obtain rfl : g = s.heap.get? := funext h
  rfl
theorem code_of {K : PySem.W.Frag} {x : Str} {params : Arguments} {body : List Stmt} {scope : Scope} {dvs : List V} {kws : List (Str × V)} {fd : FuncData} (F : FunD K x x params body scope dvs kws (ga K x) fd) : fd.code = .ref (cT K (x, none)).1 := by
  obtain ⟨a1, a2, a3, a4, a5, a6, a7, cdv, a9, a10, e, lk, hcd, _⟩ := F.ex
  subst e
  obtain ⟨c, rfl⟩ := codeIn_ref hcd
  have := codeOf_eq (p := (x, none)) lk rfl
  show Value.ref c = .ref (codeOf K (x, none))
  rw [this]
end Hk
namespace Hk
open PySem PySem.Spec PyProof.Rows L2 LamX
theorem walk_ofET {l : PySem.W.OpenLaw} {n k : Nat} {q : Program} {loose : List Str} {XP : (Str → Option Value) → Heap → Prop} {YP : World → Heap → Prop} {d : DefRec} {CX : CXT} {x : Str} (hn : l.most = some n) (hn2 : n ≤ sizeLine) (hdf : d.params.defaults = []) (hr : Room k callerA)
    (F : ∀ (w : World) (mg : Str → Option Value) (fa : Addr) (h : Heap), YP w h → h.Ns mainGlobals mg → mg d.name = some (.ref fa) → ∃ (K : PySem.W.Frag) (fd : FuncData) (cs : List (Addr × Addr)) (sp : Sp), K.In h ∧ (∀ p ∈ cs, h.get? p.2 = some { cls := .none, data := .fields #[] }) ∧ (∀ p ∈ cs, K.lookup p.2 = none) ∧
      (∀ p ∈ cs, PySem.W.CodeHd h p.1 p.2) ∧ (∀ (s : Shared) (u : Value), BindsTo s fd ⟨[u], []⟩ [(x, u)]) ∧ (∀ (H : Hp) (a : Addr) (ns : List Int), ns.length ≤ n → (∀ p ∈ cs, H p.2 = some (.tbl #[])) → SqL K H a (ns.map V.int) → sp [.ref a] H (fun v _ => v = .bl true) fun _ _ _ => False) ∧
      ∀ base : Heap, K.In base → base.Ns mainGlobals mg → (∀ p ∈ cs, TabB base mg p.1 p.2) → FnOk l.prog w K mg base CX k fa fd [x] sp)
    (hCX : ∀ (H : Hp) (s : Shared) (e : Value) (s' : Shared), CX [] H s (fun _ _ _ => False) e s' → False) : PySem.W.WalkO q loose XP YP l.row.toRowW d [] (fun f vs => PySem.call f vs) := by
  refine Att.attach_callB hn hdf fun w s0 s1 mg mb fa o pm cd doc a vs ns G Y ho hd hcd hmg hobj hints hlen hbits hg => ?_
  obtain ⟨K, fd, cs, sp, KX, hT, nT, C, hb, hsp, hF⟩ := F w mg fa _ Y G.T.g hmg
  exact law_callTs KX G.T.g G.T.b G.T.builtins G.T.nolimit hg hT nT C G.T.bmain hobj hints (Nat.le_trans hlen hn2) hr hF hb (fun H hH hS => hsp H a ns hlen hH hS) fun H e s' => hCX H s1 e s'
end Hk

set_option maxHeartbeats 1000000
/-! Classes: fields, methods and making by names; all promises are told by place. -/
namespace Yk
open PySem PySem.Spec PyProof.Rows L2
/-- a class of the text: its name's place, and the fields that its text has not -/
structure Ct (K : PySem.W.Frag) (mg : Str → Option Value) (x : Str) (C : Addr) (fs : List Str) : Prop where
  hm : mg x = some (.ref C)
  cls : Cls K C
  no : ∀ f ∈ fs, NoAttr K C f
/-- the object at a -/
def Ob (H : Hp) (C : Addr) (a : Addr) (fs : List (Str × V)) : Prop := ∃ dx, H a = some (.ins C dx fs)
theorem Ob.x {S : List Addr} {H H1 : Hp} {C a : Addr} {fs : List (Str × V)} (e : Ext S H H1) (h : Ob H C a fs) (hs : ∀ b ∈ S, ∃ l, H b = some (.lst l)) : Ob H1 C a fs := by
  obtain ⟨dx, h⟩ := h
  exact ⟨dx, e a _ h fun z => by obtain ⟨l, q⟩ := hs a z; rw [h] at q; cases q⟩
theorem Ob.x0 {H H1 : Hp} {C a : Addr} {fs : List (Str × V)} (e : Ext [] H H1) (h : Ob H C a fs) : Ob H1 C a fs := h.x e fun _ z => nomatch z
section
variable {X : Cx} {C : Addr} {x f m : Str} {fs : List Str} {o e value : Expr} {pos pos' p apos : Pos} {te ta tv : TE}
/-- e.f -/
def tAt (C : Addr) (f : Str) (te : TE) : TE := fun σ H Q => te σ H fun x H1 => ∃ a dx fs v, x = .ref a ∧ H1 a = some (.ins C dx fs) ∧ fs.lookup f = some v ∧ Q v H1
theorem pe_at (c : Ct X.K X.mg x C fs) (hf : f ∈ fs) (he : PE X e te) (hb : attributeBase e f X.env (eval e X.env) = eval e X.env := by rfl) : PE X (.Attribute e f pos) (tAt C f te) := by
  refine ⟨fun pins s σ H Q I h => ?_⟩
  refine attr_of hb (thn (he.run pins s σ H _ I h) fun u s1 ⟨x, H1, I1, rx, a, dx, fs, v, ex, ea, l, q⟩ => ?_)
  subst ex
  obtain rfl : u = Value.ref a := rx
  exact getattr_ok I1 ea c.cls (c.no _ hf) l fun u' s2 I2 ru => ⟨v, H1, I2, ru, q⟩
theorem r_at {a : Addr} {v : V} {fs : List (Str × V)} {σ : L2.St} {H : Hp} {Q : VK} (h1 : Ob H C a fs) (h2 : fs.lookup f = some v) (h : Q v H) : (fun x H1 => ∃ a dx fs v, x = V.ref a ∧ H1 a = some (.ins C dx fs) ∧ fs.lookup f = some v ∧ Q v H1) (V.ref a) H := by
  obtain ⟨dx, h1⟩ := h1
  exact ⟨a, dx, fs, v, rfl, h1, h2, h⟩
/-- e.f = value -/
def sAt (C : Addr) (f : Str) (te tv : TE) : TS := fun D σ H => tv σ H fun y H1 => te σ H1 fun x H2 => ∃ a dx fs, x = .ref a ∧ H2 a = some (.ins C dx fs) ∧ fs.length < 1000 ∧ D.nx σ (upd H2 a (.ins C dx (putF f y fs)))
theorem ps_at (c : Ct X.K X.mg x C fs) (hf : f ∈ fs) (ha : PE X o te) (hv : PE X value tv) (hs : swapsWith value (some (.Attribute o f pos')) pos.line X.env = pure false := by rfl) : PS X (.Assign [.Attribute o f pos'] value pos) (sAt C f te tv) := by
  refine ⟨fun pins s σ H D I h => ?_⟩
  refine plainObj_wpAny_Assign_Attribute (thn (hv.run pins s σ H _ I h) fun u s1 ⟨y, H1, I1, ry, q⟩ => thn (ha.run pins s1 σ H1 _ I1 q) fun ov s2 ⟨x, H2, I2, rx, a, dx, fs, ex, ea, l, q2⟩ => ?_) hs
  subst ex
  obtain rfl : ov = Value.ref a := rx
  exact setattr_ok I2 ea c.cls (c.no _ hf) l ry fun s3 I3 => ⟨σ, _, I3, q2⟩
end
section
variable (P : Program) (w : World) (K : PySem.W.Frag) (mg : Str → Option Value) (base : Heap)
/-- a method -/
structure Mt (k : Nat) (C : Addr) (m : Str) (sp : Sp) : Prop where
  run : ∃ f, Cls K C ∧ Meth K C m f ∧ FnR P w K mg base CX0 k f sp
/-- what makes an object: by place -/
structure Cr (k : Nat) (x : Str) (C : Addr) (sp : Sp) : Prop where
  run : ∃ f, mg x = some (.ref C) ∧ Mk K C f ∧ FnR P w K mg base CX0 k f sp
/-- .. with n values by place and the keywords ks: the parameters (the object ahead) are gV's -/
structure CrK (k : Nat) (x : Str) (C : Addr) (n : Nat) (ks : List Str) (gV : List V → List V → List V) (sp : Sp) : Prop where
  run : ∃ f fd ps g, mg x = some (.ref C) ∧ Mk K C f ∧ FnOk P w K mg base CX0 k f fd ps sp ∧ KBn K fd ps (n + 1) ks g gV
end
section
variable {X : Cx} {k n : Nat} {C : Addr} {sp : Sp} {x m : Str} {o e : Expr} {es : List Expr} {kws : List Keyword} {pos p apos : Pos} {te : TE} {t tk : TA} {pl : Sem Bool} {ks : List Str} {gV : List V → List V → List V}
/-- o.m(..) -/
def tMt (C : Addr) (m : Str) (sp : Sp) (te : TE) (t : TA) : TE := fun σ H Q => te σ H fun x H1 => ∃ a dx fs, x = .ref a ∧ H1 a = some (.ins C dx fs) ∧ fs.lookup m = none ∧ t σ H1 fun vs H2 => sp (x :: vs) H2 Q E0
theorem pe_mt (F : Mt X.prog X.w X.K X.mg X.base k C m sp) (hr : Room k X.A) (he : PE X o te) (ha : PA X (e :: es) t) (hx : Passes CX0 X E0 := by exact pass0)
    (hst : starEach (e :: es) X.env = (false, eval e X.env) :: starEach es X.env := by rfl) (hpl : (backTo pos (starEach es X.env)).any (·.1) = false := by rfl)
    (ht : eval (.Call (.Attribute o m apos) (e :: es) [] pos) X.env = (do
      let ov ← eval o X.env
      standAt apos.atName
      let (f, first) ← holding [ov] (getMethod ov m pl)
      callWith pos f first (backTo pos (starEach (e :: es) X.env)) (backToKw pos (keywordEach [] X.env))) := by rfl) :
    PE X (.Call (.Attribute o m apos) (e :: es) [] pos) (tMt C m sp te t) := by
  obtain ⟨f, c, hm, F⟩ := F.run
  refine ⟨fun pins s σ H Q I h => ?_⟩
  refine PySem.W.methodCall_KW (pl := pl) (thn (he.run pins s σ H _ I h) fun u s1 ⟨x, H1, I1, rx, a, dx, fs, ex, ea, l, q⟩ => ?_) ht
  subst ex
  obtain rfl : u = Value.ref a := rx
  refine getmeth_ok I1 ea c hm l ?_
  refine PySem.W.callWith_K (first := [.ref a]) (h₀ := X.base) I.ok.mod.kin hm.kp (thn (ha.run pos pins s1 σ H1 _ I1 q) fun us s2 ⟨vs, H2, I2, r, q2⟩ => ⟨I2.kIn, ?_⟩) hst hpl
  exact wpAny_call (run_fnR (us := .ref a :: us) (vs := .ref a :: vs) F hr hx I2 (.cons rfl r) q2)
theorem pe_mt0 (F : Mt X.prog X.w X.K X.mg X.base k C m sp) (hr : Room k X.A) (he : PE X o te) (hx : Passes CX0 X E0 := by exact pass0)
    (ht : eval (.Call (.Attribute o m apos) [] [] pos) X.env = (do
      let ov ← eval o X.env
      standAt apos.atName
      let (f, first) ← holding [ov] (getMethod ov m pl)
      callWith pos f first (backTo pos (starEach [] X.env)) (backToKw pos (keywordEach [] X.env))) := by rfl) :
    PE X (.Call (.Attribute o m apos) [] [] pos) (tMt C m sp te tNil) := by
  obtain ⟨f, c, hm, F⟩ := F.run
  refine ⟨fun pins s σ H Q I h => ?_⟩
  refine PySem.W.methodCall_KW (pl := pl) (thn (he.run pins s σ H _ I h) fun u s1 ⟨x, H1, I1, rx, a, dx, fs, ex, ea, l, q⟩ => ?_) ht
  subst ex
  obtain rfl : u = Value.ref a := rx
  refine getmeth_ok I1 ea c hm l ?_
  exact PySem.W.callWith_K0 (first := [.ref a]) I1.kIn hm.kp (wpAny_call (run_fnR (us := [.ref a]) (vs := [.ref a]) F hr hx I1 (.cons rfl .nil) q))
/-- C(e, ..) -/
def tCr (C : Addr) (sp : Sp) (t : TA) : TE := fun σ H Q => t σ H fun vs H1 => ∀ x dx, H1 x = Option.none → H1 dx = Option.none → dx ≠ x → sp (V.ref x :: vs) (upd (upd H1 dx (.own x)) x (.ins C dx [])) (fun v H2 => v = .non ∧ Q (.ref x) H2) E0
theorem pe_cr (F : Cr X.prog X.w X.K X.mg X.base k x C sp) (hr : Room (k + 1) X.A) (ha : PA X (e :: es) t) (hg : Gl X x := by rfl) (hx : Passes CX0 X E0 := by exact pass0) (hdb : (x == ("__debug__" : Str)) = false := by decide)
    (he : starEach (e :: es) X.env = (false, eval e X.env) :: starEach es X.env := by rfl) (hpl : (backTo pos (starEach es X.env)).any (·.1) = false := by rfl) : PE X (.Call (.Name x p) (e :: es) [] pos) (tCr C sp t) := by
  obtain ⟨f, hm, M, F⟩ := F.run
  exact StX.pe_makeR M F hr hg hm hx ha hdb he hpl
/-- C(e, .., *x) -/
theorem pe_crS2 (F : Cr X.prog X.w X.K X.mg X.base k x C sp) (hr : Room (k + 1) X.A) (ha : PA X (e :: es) t) (hg : Gl X x := by rfl) (hx : Passes CX0 X E0 := by exact pass0) (hdb : (x == ("__debug__" : Str)) = false := by decide)
    (he : starEach (e :: es) X.env = (false, eval e X.env) :: starEach es X.env := by rfl) (hst : (backTo pos (starEach es X.env)).any (·.1) = true := by rfl) : PE X (.Call (.Name x p) (e :: es) [] pos) (tCr C sp t) := by
  obtain ⟨f, hm, M, F⟩ := F.run
  refine ⟨fun pins s σ H Q I h => ?_⟩
  refine wpAny_Call_Name_kw (ld_glob I hg hm ?_ hdb)
  refine PySem.W.callWith_S2 (h₀ := X.base) I.ok.mod.kin M.kp (thn (ha.run pos pins s σ H _ I h) fun us s1 ⟨vs, H1, I1, r, q⟩ => ⟨I1.kIn, ?_⟩) he hst
  exact StX.run_makeR M F hr hx I1 r q
/-- C(e, .., k = v, ..) -/
def tCrK (C : Addr) (n m : Nat) (sp : Sp) (gV : List V → List V → List V) (t tk : TA) : TE := fun σ H Q => t σ H fun vs H1 => tk σ H1 fun zs H2 => vs.length = n ∧ zs.length = m ∧ ∀ x dx, H2 x = none → H2 dx = none → dx ≠ x →
  sp (gV (.ref x :: vs) zs) (upd (upd H2 dx (.own x)) x (.ins C dx [])) (fun v H3 => v = .non ∧ Q (.ref x) H3) E0
theorem pe_crK (F : CrK X.prog X.w X.K X.mg X.base k x C n ks gV sp) (hr : Room (k + 1) X.A) (ha : PA X (e :: es) t) (hkw : PK X kws tk) (hg : Gl X x := by rfl) (hx : Passes CX0 X E0 := by exact pass0)
    (hall : (backToKw pos (keywordEach kws X.env)).all (·.1.isSome) = true := by rfl) (hks : (backToKw pos (keywordEach kws X.env)).filterMap (·.1) = ks := by rfl) (hdb : (x == ("__debug__" : Str)) = false := by decide)
    (he : starEach (e :: es) X.env = (false, eval e X.env) :: starEach es X.env := by rfl) (hpl : ((backTo pos (starEach (e :: es) X.env)).any (·.1) || (backToKw pos (keywordEach kws X.env)).any (·.1.isNone)) = false := by rfl) :
    PE X (.Call (.Name x p) (e :: es) kws pos) (tCrK C n ks.length sp gV t tk) := by
  obtain ⟨f, fd, ps, g, hm, M, F, hb⟩ := F.run
  exact pe_makeK M F hr hg hm hb hx ha hkw hall hks hdb he hpl
theorem pe_crK0 (F : CrK X.prog X.w X.K X.mg X.base k x C 0 ks gV sp) (hr : Room (k + 1) X.A) (hkw : PK X kws tk) (hg : Gl X x := by rfl) (hx : Passes CX0 X E0 := by exact pass0)
    (hall : (backToKw pos (keywordEach kws X.env)).all (·.1.isSome) = true := by rfl) (hks : (backToKw pos (keywordEach kws X.env)).filterMap (·.1) = ks := by rfl) (hdb : (x == ("__debug__" : Str)) = false := by decide)
    (hpl : ((backTo pos (starEach [] X.env)).any (·.1) || (backToKw pos (keywordEach kws X.env)).any (·.1.isNone)) = false := by rfl) :
    PE X (.Call (.Name x p) [] kws pos) (tCrK C 0 ks.length sp gV tNil tk) := by
  obtain ⟨f, fd, ps, g, hm, M, F, hb⟩ := F.run
  exact pe_makeK0 M F hr hg hm hb hx hkw hall hks hdb hpl
end
section
variable {P : Program} {w : World} {K : PySem.W.Frag} {mg : Str → Option Value} {base : Heap} {f C : Addr} {fd : FuncData} {x qual : Str} {params : Arguments} {body : List Stmt} {scope : Scope} {dvs : List V} {kws : List (Str × V)} {N ps : List Str} {k : Nat} {sp : Sp}
/-- a method (or a def with defaults) keeps its promise -/
theorem ok_meth (F : FunD K x qual params body scope dvs kws f fd) (S : FnScope N ps scope) (len : ∀ vs H Q E, sp vs H Q E → vs.length = ps.length)
    (hbody : ∀ (cdv : Value) (A : Around) (outer : List Env) (s : Shared) (H : Hp) (vs : List V) (Q : VK) (E : XK), Room k (A.deeper (envOfC qual scope s.heap.objs.size f cdv)) → sp vs H Q E →
      ∃ t, PSs (cxOf CX0 P w K mg base N qual scope f cdv A outer s H E).nox body t ∧ t ⟨fun _ H' => Q .non H', Q, fun _ _ => False, fun _ _ => False⟩ (start N vs) H) : FnOk P w K mg base CX0 (k + 1) f fd ps sp :=
  F.ok S len fun cdv A outer s H vs Q E hr h => by
    obtain ⟨t, h1, h2⟩ := hbody cdv A outer s H vs Q E hr h
    exact ⟨t, h1.nox, h2⟩
theorem raw_meth (F : FunD K x qual params body scope [] [] f fd) (G : FnOk P w K mg base CX0 k f fd ps sp)
    (hb : ∀ (kV doc pm : Value) (an : Option Addr) (cdv ct : Value) (us : List Value), us.length = ps.length → bindArgs (PySem.W.fnOf x qual params body scope .none kV doc pm an cdv ct) ⟨us, []⟩ = pure (ps.zip us)) : FnR P w K mg base CX0 k f sp := by
  have b := F.bindsN hb
  have R := G.raw b .nil
  refine R.imp fun vs H Q E h => ?_
  rw [List.append_nil]
  exact h
/-- def m(self, .., *v) -/
theorem raw_star {pv : Str} {sp' : Sp} (F : FunD K x qual params body scope [] [] f fd) (S : FnScope N (ps ++ [pv]) scope)
    (hb : ∀ (kV doc pm : Value) (an : Option Addr) (cdv ct : Value) (us rest : List Value), us.length = ps.length → bindArgs (PySem.W.fnOf x qual params body scope .none kV doc pm an cdv ct) ⟨us ++ rest, []⟩ = (newTuple rest >>= fun t => pure (ps.zip us ++ [(pv, t)])))
    (hbody : ∀ (cdv : Value) (A : Around) (outer : List Env) (s : Shared) (H : Hp) (vs : List V) (Q : VK) (E : XK), Room k (A.deeper (envOfC qual scope s.heap.objs.size f cdv)) → sp vs H Q E →
      ∃ t, PSs (cxOf CX0 P w K mg base N qual scope f cdv A outer s H E).nox body t ∧ t ⟨fun _ H' => Q .non H', Q, fun _ _ => False, fun _ _ => False⟩ (start N vs) H)
    (himp : ∀ vs H Q E, sp' vs H Q E → ∃ ws rest, vs = ws ++ rest ∧ ws.length = ps.length ∧ rest.length ≤ sizeLine ∧ ∀ p, H p = none → sp (ws ++ [V.ref p]) (upd H p (.tup rest)) Q E) : FnR P w K mg base CX0 (k + 1) f sp' := by
  obtain ⟨oc, od, dV, kV, doc, pm, an, cdv, ct, osl, rfl, lk, hcd, hD, _⟩ := F.ex
  rcases hD with ⟨_, rfl⟩ | ⟨e, _⟩
  · have R := StX.fn_star (P := P) (w := w) (mg := mg) (base := base) (sp := sp) lk hcd S StX.cxUp_none (hb kV doc pm an cdv ct) (fun A outer s H vs Q E hr h => let ⟨t, h1, h2⟩ := hbody cdv A outer s H vs Q E hr h; ⟨t, h1.nox, h2⟩)
    exact R.imp himp
  · exact absurd rfl e
theorem mt_of (c : Cls K C) (hm : Meth K C x f) (R : FnR P w K mg base CX0 k f sp) : Mt P w K mg base k C x sp := ⟨f, c, hm, R⟩
theorem cr_of {y : Str} (hy : mg y = some (.ref C)) (M : Mk K C f) (R : FnR P w K mg base CX0 k f sp) : Cr P w K mg base k y C sp := ⟨f, hy, M, R⟩
end
end Yk
namespace Yk
open PySem PySem.Spec PyProof.Rows L2
theorem upd_upd {H : Hp} {a : Addr} {x y : HO} : upd (upd H a x) a y = upd H a y := by
  funext b
  by_cases h : a = b
  · subst h; rw [upd_same, upd_same]
  · rw [upd_ne (Ne.symm h), upd_ne (Ne.symm h), upd_ne (Ne.symm h)]
theorem upd_self {H : Hp} {a : Addr} {x : HO} (h : H a = some x) : upd H a x = H := by
  funext b
  by_cases q : a = b
  · subst q; rw [upd_same, h]
  · rw [upd_ne (Ne.symm q)]
section
variable {nx : L2.St → Hp → Prop} {rt : VK} {bk ct : L2.St → Hp → Prop} {σ : L2.St} {H : Hp} {K : PySem.W.Frag} {Q : VK} {te ta tb tc tv : TE} {C a dx : Addr} {f m : Str} {fs : List (Str × V)} {v y : V} {r r' : R2} {sp : Sp} {t tk : TA}
theorem r_tAt (h : te σ H fun x H1 => ∃ a dx fs v, x = .ref a ∧ H1 a = some (.ins C dx fs) ∧ fs.lookup f = some v ∧ Q v H1) : tAt C f te σ H Q := h
theorem r_fld {R : V → Prop} (h1 : H a = some (.ins C dx fs)) (h2 : fs.lookup f = some v) (h : R v) : ∃ a' dx' fs' v', V.ref a = .ref a' ∧ H a' = some (.ins C dx' fs') ∧ fs'.lookup f = some v' ∧ R v' := ⟨a, dx, fs, v, rfl, h1, h2, h⟩
theorem r_sAt (h : tv σ H fun y H1 => te σ H1 fun x H2 => ∃ a dx fs, x = .ref a ∧ H2 a = some (.ins C dx fs) ∧ fs.length < 1000 ∧ nx σ (upd H2 a (.ins C dx (putF f y fs)))) : sAt C f te tv ⟨nx, rt, bk, ct⟩ σ H := h
theorem r_put {R : Hp → Prop} (h1 : H a = some (.ins C dx fs)) (h2 : fs.length < 1000) (h : R (upd H a (.ins C dx (putF f y fs)))) : ∃ a' dx' fs', V.ref a = .ref a' ∧ H a' = some (.ins C dx' fs') ∧ fs'.length < 1000 ∧ R (upd H a' (.ins C dx' (putF f y fs'))) := ⟨a, dx, fs, rfl, h1, h2, h⟩
theorem putF_lt {N : Nat} (h : fs.length < N) : (putF f v fs).length < N + 1 := Nat.lt_of_le_of_lt (length_putF f v fs) (by omega)
theorem r_putU {R : Hp → Prop} (h2 : fs.length < 1000) (h : R (upd H a (.ins C dx (putF f y fs)))) : ∃ a' dx' fs', V.ref a = .ref a' ∧ upd H a (.ins C dx fs) a' = some (.ins C dx' fs') ∧ fs'.length < 1000 ∧ R (upd (upd H a (.ins C dx fs)) a' (.ins C dx' (putF f y fs'))) :=
  ⟨a, dx, fs, rfl, upd_same, h2, by rw [upd_upd]; exact h⟩
theorem r_tMt (h : te σ H fun x H1 => ∃ a dx fs, x = .ref a ∧ H1 a = some (.ins C dx fs) ∧ fs.lookup m = none ∧ t σ H1 fun vs H2 => sp (x :: vs) H2 Q E0) : tMt C m sp te t σ H Q := h
theorem r_met {R : Prop} (h1 : H a = some (.ins C dx fs)) (h2 : fs.lookup m = none) (h : R) : ∃ a' dx' fs', V.ref a = .ref a' ∧ H a' = some (.ins C dx' fs') ∧ fs'.lookup m = none ∧ R := ⟨a, dx, fs, rfl, h1, h2, h⟩
theorem r_tCr (h : t σ H fun vs H1 => ∀ x dx, H1 x = Option.none → H1 dx = Option.none → dx ≠ x → sp (V.ref x :: vs) (upd (upd H1 dx (.own x)) x (.ins C dx [])) (fun v H2 => v = .non ∧ Q (.ref x) H2) E0) : tCr C sp t σ H Q := h
theorem r_tCrK {n k : Nat} {gV : List V → List V → List V} (h : t σ H fun vs H1 => tk σ H1 fun zs H2 => vs.length = n ∧ zs.length = k ∧ ∀ x dx, H2 x = none → H2 dx = none → dx ≠ x →
  sp (gV (.ref x :: vs) zs) (upd (upd H2 dx (.own x)) x (.ins C dx [])) (fun v H3 => v = .non ∧ Q (.ref x) H3) E0) : tCrK C n k sp gV t tk σ H Q := h
theorem r_chain (h : ta σ H fun x H1 => tb σ H1 fun y H2 => r x y H2 fun z H3 => ∃ k, z = .bl k ∧ (if k = true then tc σ H3 fun w' H4 => r' y w' H4 Q else Q (.bl false) H3)) : tChain r r' ta tb tc σ H Q := h
theorem r_in {neg : Bool} {p : Addr} {xs : List V} {x : V} (h1 : SqL K H p xs ∨ SqT K H p xs) (h2 : flatV x = true) (h3 : xs.all flatV = true) (h : Q (.bl (if neg then !inV x xs else inV x xs)) H) : rIn K neg x (.ref p) H Q := ⟨p, xs, rfl, h1, h2, h3, h⟩
end
/-! isinstance of the text's own classes; constants of a class -/
/-- the type of the class's objects is the class -/
structure Ty1 (K : PySem.W.Frag) (C : Addr) : Prop where
  ty : ∀ (H : Hp) (a dx : Addr) (fs : List (Str × V)), H a = some (.ins C dx fs) → TyX K H (.ref a) (.ref C)
section
variable {H : Hp} {K : PySem.W.Frag} {Q : VK} {C D D1 D2 a p dx : Addr} {fs : List (Str × V)} {b : Bool} {te : TE} {f : Str} {σ : L2.St}
theorem r_isiO (Y : Ty1 K C) (h : H a = some (.ins C dx fs)) (e : PySem.W.kitOne K (.ref C) (.ref D) = some b) (k : Q (.bl b) H) : rIsi K [.ref a, .ref D] H Q := ⟨.ref a, .ref D, .ref C, .ref D, b, rfl, .own D, Y.ty _ _ _ _ h, e, k⟩
theorem r_isiOT (Y : Ty1 K C) (hp : H p = some (.tup [.ref D1, .ref D2])) (h : H a = some (.ins C dx fs)) (e : PySem.W.kitAny K (.ref C) [.ref D1, .ref D2] = some b) (k : Q (.bl b) H) : rIsiT K [.ref a, .ref p] H Q :=
  ⟨.ref a, p, [.ref D1, .ref D2], .ref C, [.ref D1, .ref D2], b, rfl, hp, .cons (.own D1) (.cons (.own D2) .nil), Y.ty _ _ _ _ h, e, k⟩
/-- C.f, a constant of the class -/
theorem r_cval {mc : Value} {v : V} {u : Value} (r : ClX.CRead K C mc) (c : ClX.CVal K C mc f v u) (h : Q v H) : ClX.tCVal K (tC (.ref C)) f σ H Q := ⟨C, mc, v, u, rfl, r, c, h⟩
end
end Yk
namespace Yk
open PySem PySem.Spec PyProof.Rows L2
section
variable (P : Program) (w : World) (K : PySem.W.Frag) (mg : Str → Option Value) (base : Heap)
/-- a property -/
structure Pr (k : Nat) (C : Addr) (f : Str) (sp : Sp) : Prop where
  run : ∃ p g fd, Cls K C ∧ PropOf K C f p g ∧ FnOk P w K mg base CX0 k g fd ["self"] sp ∧ Binds K fd ["self"] []
end
section
variable {X : Cx} {k : Nat} {C : Addr} {f : Str} {sp : Sp} {e : Expr} {te : TE} {pos : Pos}
/-- e.f, f a property -/
def tPr (C : Addr) (sp : Sp) (te : TE) : TE := fun σ H Q => te σ H fun x H1 => ∃ a dx fs, x = .ref a ∧ H1 a = some (.ins C dx fs) ∧ sp [.ref a] H1 Q E0
theorem pe_pr (F : Pr X.prog X.w X.K X.mg X.base k C f sp) (hr : Room (k + 1) X.A) (he : PE X e te) (hab : attributeBase e f X.env (eval e X.env) = eval e X.env := by rfl) : PE X (.Attribute e f pos) (tPr C sp te) := by
  obtain ⟨p, g, fd, c, hp, G, hb⟩ := F.run
  exact pe_prop he c hp G hr hb .nil pass0 hab
theorem r_tPr {σ : L2.St} {H : Hp} {Q : VK} (h : te σ H fun x H1 => ∃ a dx fs, x = .ref a ∧ H1 a = some (.ins C dx fs) ∧ sp [.ref a] H1 Q E0) : tPr C sp te σ H Q := h
theorem r_prp {H : Hp} {a dx : Addr} {fs : List (Str × V)} {R : Prop} (h1 : H a = some (.ins C dx fs)) (h : R) : ∃ a' dx' fs', V.ref a = .ref a' ∧ H a' = some (.ins C dx' fs') ∧ R := ⟨a, dx, fs, rfl, h1, h⟩
end
end Yk

set_option maxHeartbeats 1000000
/-! zip of three, each a list or a tuple. -/
namespace Yk
open PySem PySem.Spec PyProof.Rows L2
/-- a list (true) or a tuple at a -/
def SqB (K : PySem.W.Frag) (k : Bool) (H : Hp) (a : Addr) (xs : List V) : Prop := match k with
  | true => SqL K H a xs
  | false => SqT K H a xs
/-- its iterator -/
def ItB (k : Bool) (h : Heap) (it l : Addr) (i : Nat) : Prop := match k with
  | true => h.IsListIter it l i
  | false => h.IsTupleIter it l i
def SeB (k : Bool) (h : Heap) (l : Addr) (items : Array Value) : Prop := match k with
  | true => h.IsList l items
  | false => h.IsTuple l items
def ioB (k : Bool) (l : Addr) : Obj := match k with
  | true => { cls := .type "list_iterator", data := .fields #[.ref l, .int 0 0] }
  | false => { cls := .type "tuple_iterator", data := .fields #[.ref l, .int 0 0] }
theorem drawsB {prog : Program} {w : World} {A : Around} (hh : A.handled = none) (k : Bool) (it l : Addr) (hne : l ≠ it) (items : Array Value) :
    Draws prog w A it [it, l] items.size (fun i v => items[i]? = some v) (fun i h => ItB k h it l i ∧ SeB k h l items) := by
  cases k with
  | true => exact Draws.list hh it l hne items
  | false => exact Draws.tuple hh it l hne items
theorem beginsB (k : Bool) (l : Addr) (items : Array Value) : Begins (.ref l) (ioB k l) fun h => SeB k h l items := by
  cases k with
  | true => exact begins_list l items
  | false => exact begins_tuple l items
theorem ItB.at_ {k : Bool} {h h' : Heap} {it l : Addr} {i : Nat} (x : ItB k h it l i) (e : ∀ o, h.get? it = some o → h'.get? it = some o) : ItB k h' it l i := by
  cases k with
  | true => exact Heap.IsListIter.at x e
  | false => exact Heap.IsTupleIter.at x e
theorem ItB.ob {k : Bool} {h : Heap} {it l : Addr} {i : Nat} (x : ItB k h it l i) : ∃ o, h.get? it = some o ∧ ∀ v, o.data ≠ .cell v := by
  cases k with
  | true => obtain ⟨o, e, _, d⟩ := x; exact ⟨o, e, fun v q => by rw [d] at q; cases q⟩
  | false => obtain ⟨o, e, _, d⟩ := x; exact ⟨o, e, fun v q => by rw [d] at q; cases q⟩
theorem itB_new {k : Bool} {h : Heap} {it l : Addr} (e : h.get? it = some (ioB k l)) : ItB k h it l 0 := by
  cases k with
  | true => exact ⟨_, e, rfl, rfl⟩
  | false => exact ⟨_, e, rfl, rfl⟩
theorem seB_of {X : Cx} {pins : List (Addr × Obj)} {σ : L2.St} {H : Hp} {s : Shared} {k : Bool} {a : Addr} {xs : List V} (I : Inv X pins σ H s) (h : SqB X.K k H a xs) : ∃ its, Vals xs its ∧ SeB k s.heap a its.toArray ∧ a < s.heap.objs.size := by
  cases k with
  | true =>
    obtain ⟨its, rv, p, _⟩ := I.list h
    exact ⟨its, rv, p.isList, p.lt⟩
  | false =>
    obtain ⟨its, rv, p, _⟩ := I.tuple h
    have p' : s.heap.IsTuple a its.toArray := p
    obtain ⟨o, ho, _⟩ := id p'
    exact ⟨its, rv, p', Heap.lt_size ho⟩
theorem sqB_inj {X : Cx} {pins : List (Addr × Obj)} {σ : L2.St} {H : Hp} {s : Shared} {k : Bool} {a : Addr} {xs ys : List V} (I : Inv X pins σ H s) (h : SqB X.K k H a xs) (g : SqB X.K k H a ys) : ys = xs := by
  cases k with
  | true => exact I.list_inj g h
  | false => exact I.tuple_inj g h
/-- three as they stand at each turn, the items in new triples -/
def ItZ3 (K : PySem.W.Frag) (k1 k2 k3 : Bool) (a b c : Addr) : It :=
  ⟨fun i H => ∃ (xs ys zs : List V) (x y z : V), SqB K k1 H a xs ∧ SqB K k2 H b ys ∧ SqB K k3 H c zs ∧ xs[i]? = some x ∧ ys[i]? = some y ∧ zs[i]? = some z,
    fun i H v H' => ∃ T x y z, v = .ref T ∧ H T = none ∧ H' = upd H T (.tup [x, y, z]) ∧ (∀ xs, SqB K k1 H a xs → xs[i]? = some x) ∧ (∀ ys, SqB K k2 H b ys → ys[i]? = some y) ∧ ∀ zs, SqB K k3 H c zs → zs[i]? = some z,
    fun i H => ∃ xs ys zs : List V, SqB K k1 H a xs ∧ SqB K k2 H b ys ∧ SqB K k3 H c zs ∧ xs.length = i ∧ ys.length = i ∧ zs.length = i⟩
structure Z3Apart (z TI TO i1 i2 i3 a b c : Addr) : Prop where
  nd : [z, TI, TO, i1, i2, i3].Nodup
  a : a ∉ [z, TI, TO, i1, i2, i3]
  b : b ∉ [z, TI, TO, i1, i2, i3]
  c : c ∉ [z, TI, TO, i1, i2, i3]
theorem Z3Apart.sep {z TI TO i1 i2 i3 a b c : Addr} (D : Z3Apart z TI TO i1 i2 i3 a b c) : ZipSep3 z TI TO i1 i2 i3 [i1, a] [i2, b] [i3, c] := by
  have h := D.nd
  have ha := D.a
  have hb := D.b
  have hc := D.c
  simp only [List.nodup_cons, List.mem_cons, List.not_mem_nil, or_false, not_or] at h ha hb hc
  constructor <;> (try simp only [List.mem_cons, List.not_mem_nil, or_false, not_or, true_or]) <;> grind
theorem turn_z3 {P : Program} {w : World} {K : PySem.W.Frag} {elts : List Expr} {kk : Nat} {tpos : Pos} {k1 k2 k3 : Bool} {a b c z TI TO i1 i2 i3 : Addr} (D : Z3Apart z TI TO i1 i2 i3 a b c) :
    Turn P w K (.Tuple elts kk tpos) (ItZ3 K k1 k2 k3 a b c) [z, TI, TO, i1, i2, i3] z (fun i h => IsZip h z TI TO .none ∧ IsTupOf3 h TI (.ref i1) (.ref i2) (.ref i3) ∧ (∃ x y u, IsTupOf3 h TO x y u) ∧ ItB k1 h i1 a i ∧ ItB k2 h i2 b i ∧ ItB k3 h i3 c i) where
  mem := by simp
  obj := fun i h st d hd => by
    obtain ⟨hz, hTI, ⟨x, y, u, hTO⟩, h1, h2, h3⟩ := st
    have e' : d = z ∨ d = TI ∨ d = TO ∨ d = i1 ∨ d = i2 ∨ d = i3 := by simpa using hd
    rcases e' with q | q | q | q | q | q
    · rw [q]; exact ⟨_, hz, fun v q => nomatch q⟩
    · rw [q]; exact ⟨_, hTI, fun v q => nomatch q⟩
    · rw [q]; exact ⟨_, hTO, fun v q => nomatch q⟩
    · rw [q]; exact h1.ob
    · rw [q]; exact h2.ob
    · rw [q]; exact h3.ob
  keep := fun i h h' st k => by
    obtain ⟨hz, hTI, ⟨x, y, u, hTO⟩, h1, h2, h3⟩ := st
    exact ⟨k z (by simp) _ hz, k TI (by simp) _ hTI, ⟨x, y, u, k TO (by simp) _ hTO⟩, h1.at_ fun o q => k i1 (by simp) o q, h2.at_ fun o q => k i2 (by simp) o q, h3.at_ fun o q => k i3 (by simp) o q⟩
  item := by
    intro X hP hw hK hc i pins s σ H E I hf st hg
    subst hP hw hK
    obtain ⟨hz, hTI, ⟨x0, y0, u0, hTO⟩, h1, h2, h3⟩ := st
    obtain ⟨xs, ys, zs, x, y, v, hqx, hqy, hqz, hx, hy, hv⟩ := hg
    obtain ⟨its, rv, p, la⟩ := seB_of I hqx
    obtain ⟨its2, rv2, p2, lb⟩ := seB_of I hqy
    obtain ⟨its3, rv3, p3, lc⟩ := seB_of I hqz
    obtain ⟨u, hu, ru⟩ := rv.get hx
    obtain ⟨u2, hu2, ru2⟩ := rv2.get hy
    obtain ⟨u3, hu3, ru3⟩ := rv3.get hv
    have S := D.sep
    have hh : X.A.in1.handled = none := I.ok.hd hc
    have lt1 : i < its.toArray.size := by simpa using (List.getElem?_eq_some_iff.mp hu).1
    have lt2 : i < its2.toArray.size := by simpa using (List.getElem?_eq_some_iff.mp hu2).1
    have lt3 : i < its3.toArray.size := by simpa using (List.getElem?_eq_some_iff.mp hu3).1
    have na : a ≠ i1 := fun q => D.a (by rw [q]; simp)
    have nb : b ≠ i2 := fun q => D.b (by rw [q]; simp)
    have nc : c ≠ i3 := fun q => D.c (by rw [q]; simp)
    have hzl : z < s.heap.objs.size := Heap.lt_size hz
    refine wpAny_pyNext_zipD3_item S (drawsB hh k1 i1 a na its.toArray) (drawsB hh k2 i2 b nb its2.toArray) (drawsB hh k3 i3 c nc its3.toArray) hz hTI hTO ⟨h1, p⟩ ⟨h2, p2⟩ ⟨h3, p3⟩ lt1 lt2 lt3 fun x1 x2 x3 h' tk e1 e2 e3 z' TO' s1 s2 s3 hT hsz hk => ?_
    have f1 : x1 = u := by
      have e1 : its[i]? = some x1 := by simpa using e1
      rw [hu] at e1
      exact (Option.some.inj e1).symm
    have f2 : x2 = u2 := by
      have e2 : its2[i]? = some x2 := by simpa using e2
      rw [hu2] at e2
      exact (Option.some.inj e2).symm
    have f3 : x3 = u3 := by
      have e3 : its3[i]? = some x3 := by simpa using e3
      rw [hu3] at e3
      exact (Option.some.inj e3).symm
    subst f1 f2 f3
    refine ⟨_, rfl, wpAny_letOwnedTupleGo_zip (s := { s with heap := h', toks := tk }) z' fun h'' z'' sb => ?_⟩
    have hT2 : h''.get? s.heap.objs.size = some { cls := .type "tuple", data := .seq #[x1, x2, x3] } := (sb.2 _ (Nat.ne_of_gt hzl)).trans hT
    have new : ObjOk X.prog X.w (upd H s.heap.objs.size (.tup [x, y, v])) h'' s.heap.objs.size (.tup [x, y, v]) :=
      ⟨by show 3 ≤ sizeLine; decide, [x1, x2, x3], .cons ru (.cons ru2 (.cons ru3 .nil)), ⟨_, hT2, rfl, _, rfl⟩⟩
    have I1 : Inv X pins σ (upd H s.heap.objs.size (.tup [x, y, v])) { s with heap := h'', toks := tk } :=
      I.turnedNew (t' := tk) (ch := [z, TI, TO, i1, i2, i3]) (fun d o hb q => (sb.2 d (fun q' => hb (by simp [q']))).trans (hk d o (fun q' => hb (by simp [q'])) (fun q' => hb (by simp [q'])) (fun q' => hb (by simp [q'])) (fun q' => hb (by simp [q'])) (fun q' => hb (by simp [q'])) q)) hf (Nat.le_refl _) new
    have nd := D.nd
    simp only [List.nodup_cons, List.mem_cons, List.not_mem_nil, or_false, not_or] at nd
    refine ⟨.ref s.heap.objs.size, _, I1, rfl, ⟨_, x, y, v, rfl, I.hok.fresh (Nat.le_refl _), rfl, fun l hl => by rw [sqB_inj I hqx hl]; exact hx, fun l hl => by rw [sqB_inj I hqy hl]; exact hy, fun l hl => by rw [sqB_inj I hqz hl]; exact hv⟩, ⟨z'', ?_, ⟨x1, x2, x3, ?_⟩, ?_, ?_, ?_⟩, fun d hd => ?_⟩
    · exact (sb.2 _ S.TIz).trans (hk _ _ S.TIz S.TITO S.TIi1 S.TIi2 S.TIi3 hTI)
    · exact (sb.2 _ S.TOz).trans TO'
    · exact s1.1.at_ fun o q => (sb.2 _ (S.zi1.symm)).trans q
    · exact s2.1.at_ fun o q => (sb.2 _ (S.zi2.symm)).trans q
    · exact s3.1.at_ fun o q => (sb.2 _ (S.zi3.symm)).trans q
    · have hlt : d < s.heap.objs.size := by
        have e' : d = z ∨ d = TI ∨ d = TO ∨ d = i1 ∨ d = i2 ∨ d = i3 := by simpa using hd
        rcases e' with q | q | q | q | q | q
        · rw [q]; exact hzl
        · rw [q]; exact Heap.lt_size hTI
        · rw [q]; exact Heap.lt_size hTO
        · rw [q]; obtain ⟨_, e, _⟩ := h1.ob; exact Heap.lt_size e
        · rw [q]; obtain ⟨_, e, _⟩ := h2.ob; exact Heap.lt_size e
        · rw [q]; obtain ⟨_, e, _⟩ := h3.ob; exact Heap.lt_size e
      rw [upd_ne (Nat.ne_of_lt hlt)]
      exact (hf d hd).1
  done := by
    intro X hP hw hK hc i pins s σ H E I hf st hg
    subst hP hw hK
    obtain ⟨hz, hTI, ⟨x0, y0, u0, hTO⟩, h1, h2, h3⟩ := st
    obtain ⟨xs, ys, zs, hqx, hqy, hqz, e1, e2, e3⟩ := hg
    obtain ⟨its, rv, p, la⟩ := seB_of I hqx
    obtain ⟨its2, rv2, p2, lb⟩ := seB_of I hqy
    obtain ⟨its3, rv3, p3, lc⟩ := seB_of I hqz
    have S := D.sep
    have hh : X.A.in1.handled = none := I.ok.hd hc
    have l1 : i = its.toArray.size := by have := rv.length; simp; omega
    have l2 : i = its2.toArray.size := by have := rv2.length; simp; omega
    have l3 : i = its3.toArray.size := by have := rv3.length; simp; omega
    have na : a ≠ i1 := fun q => D.a (by rw [q]; simp)
    have nb : b ≠ i2 := fun q => D.b (by rw [q]; simp)
    have nc : c ≠ i3 := fun q => D.c (by rw [q]; simp)
    exact wpAny_pyNext_zipD3_end S (drawsB hh k1 i1 a na its.toArray) (drawsB hh k2 i2 b nb its2.toArray) (drawsB hh k3 i3 c nc its3.toArray) hz hTI hTO ⟨h1, p⟩ ⟨h2, p2⟩ ⟨h3, p3⟩ (Nat.le_of_eq l1) (Nat.le_of_eq l2) (Nat.le_of_eq l3) (.inl l1) fun h' tk hk =>
      ⟨rfl, I.turnedL (t' := tk) (ch := [z, TI, TO, i1, i2, i3]) (fun d o hb q => hk d o (fun q' => hb (by simp [q'])) (fun q' => hb (by simp [q'])) (fun q' => hb (by simp [q'])) (fun q' => hb (by simp [q'])) (fun q' => hb (by simp [q'])) q) hf⟩
  self := fun A i s Q E st h => wpAny_pyIter_zip st.1 h
def iZip3 (K : PySem.W.Frag) (ta : TA) : TI := fun σ H R => ta σ H fun vs H1 => ∃ (k1 k2 k3 : Bool) (a b c : Addr) (xs ys zs : List V), vs = [.ref a, .ref b, .ref c] ∧ SqB K k1 H1 a xs ∧ SqB K k2 H1 b ys ∧ SqB K k3 H1 c zs ∧ R (ItZ3 K k1 k2 k3 a b c) H1
theorem z3_apart (I l1 l2 l3 : Nat) (h1 : l1 < I) (h2 : l2 < I) (h3 : l3 < I) : Z3Apart (I + 5) (I + 3) (I + 4) I (I + 1) (I + 2) l1 l2 l3 := by
  constructor <;> (first | simp | skip) <;> (try refine ⟨?_, ?_⟩) <;> grind
theorem pi_zip3 {X : Cx} {e e2 e3 : Expr} {ta : TA} {p pos tpos : Pos} {elts : List Expr} {kk : Nat} (hg : Gl X "zip") (hm : X.mg "zip" = none) (ha : PA X [e, e2, e3] ta)
    (hs : starEach [e, e2, e3] X.env = (false, eval e X.env) :: starEach [e2, e3] X.env := by rfl) (hpl : (backTo pos (starEach [e2, e3] X.env)).any (·.1) = false := by rfl) :
    PI X (.Tuple elts kk tpos) (.Call (.Name "zip" p) [e, e2, e3] [] pos) (iZip3 X.K ta) := by
  refine ⟨fun pins s σ H R I h => ?_⟩
  refine Call_ (ld_blt I hg hm PyProof.Rows.boot_zip (PyProof.Rows.callWith_type1 (thn (ha.run pos pins s σ H _ I h) fun us s1 ⟨vs, H1, I1, r1, q1⟩ => ?_) hs hpl))
  obtain ⟨k1, k2, k3, a, b, c, xs, ys, zs, ex, hqx, hqy, hqz, q⟩ := q1
  subst ex
  cases r1 with
  | cons r rr =>
    cases rr with
    | cons r' rr =>
      cases rr with
      | cons r'' rr =>
        cases rr
        cases r
        cases r'
        cases r''
        have fresh6 : ∀ d, d ∈ [s1.heap.objs.size + 5, s1.heap.objs.size + 3, s1.heap.objs.size + 4, s1.heap.objs.size, s1.heap.objs.size + 1, s1.heap.objs.size + 2] → FpOk X pins H1 d := fun d hd => by
          have hle : s1.heap.objs.size ≤ d := by
            simp only [List.mem_cons, List.not_mem_nil, or_false] at hd
            rcases hd with z | z | z | z | z | z <;> rw [z] <;> omega
          exact I1.fpOk hle (I1.hok.fresh hle)
        obtain ⟨its, rv, p1, la⟩ := seB_of I1 hqx
        obtain ⟨its2, rv2, p2, lb⟩ := seB_of I1 hqy
        obtain ⟨its3, rv3, p3, lc⟩ := seB_of I1 hqz
        refine zip_begins3 (beginsB k1 a its.toArray) (beginsB k2 b its2.toArray) (beginsB k3 c its3.toArray) p1 p2 p3 fun h' hz hTI hTO h1 h2 h3 hsz hk => wpAny_pyIter_zip hz ?_
        have I2 : Inv X pins σ H1 { s1 with heap := h' } := I1.kept (t' := s1.toks) hk
        exact ⟨s1.heap.objs.size + 5, [s1.heap.objs.size + 5, s1.heap.objs.size + 3, s1.heap.objs.size + 4, s1.heap.objs.size, s1.heap.objs.size + 1, s1.heap.objs.size + 2], _, _, H1, rfl, I2, turn_z3 (z3_apart s1.heap.objs.size a b c la lb lc), ⟨hz, hTI, ⟨_, _, _, hTO⟩, itB_new h1, itB_new h2, itB_new h3⟩, fresh6, q⟩
section
variable {σ : L2.St} {H : Hp} {K : PySem.W.Frag}
theorem r_iZip3 {ta : TA} {R : It → Hp → Prop} (h : ta σ H fun vs H1 => ∃ (k1 k2 k3 : Bool) (a b c : Addr) (xs ys zs : List V), vs = [.ref a, .ref b, .ref c] ∧ SqB K k1 H1 a xs ∧ SqB K k2 H1 b ys ∧ SqB K k3 H1 c zs ∧ R (ItZ3 K k1 k2 k3 a b c) H1) : iZip3 K ta σ H R := h
/-- a comprehension over three of one length -/
theorem r_lcZ3 {k1 k2 k3 : Bool} {a b c : Addr} {xs ys zs : List V} {g : TG} {tt : TT} {te : TE} {vs : List Nat} {D : Addr} {Qd : Hp → Prop} (hl : xs.length = ys.length) (hl2 : xs.length = zs.length) (Pv : Nat → Hp → Prop) (h0 : Pv 0 (upd H D (.lst []))) (hq : ∀ i H, Pv i H → SqB K k1 H a xs ∧ SqB K k2 H b ys ∧ SqB K k3 H c zs)
    (hs : ∀ (i : Nat) (x y z : V) (T : Addr) (H : Hp), xs[i]? = some x → ys[i]? = some y → zs[i]? = some z → Pv i H → H T = none → g (.ref T) (wipe σ vs) (upd H T (.tup [x, y, z])) fun σ2 H2 => wipe σ2 vs = wipe σ vs ∧ tt σ2 H2 fun b H3 =>
      if b = true then te σ2 H3 fun y H4 => ∃ acc, H4 D = some (.lst acc) ∧ acc.length < sizeLine ∧ Pv (i + 1) (upd H4 D (.lst (acc ++ [y]))) else Pv (i + 1) H3) (hd : ∀ H, Pv xs.length H → Qd H) :
    ∃ W : Nat → Nat → Hp → Prop, (∃ m, W 0 m (upd H D (.lst []))) ∧ ∀ i m H, W i m H →
      ((ItZ3 K k1 k2 k3 a b c).stop i H ∧ Qd H) ∨ ((ItZ3 K k1 k2 k3 a b c).go i H ∧ ∃ Nx : Hp → Prop, (∀ H', Nx H' → ∃ m', m' < m ∧ W (i + 1) m' H') ∧ ∀ x H', (ItZ3 K k1 k2 k3 a b c).yld i H x H' → g x (wipe σ vs) H' fun σ2 H2 => wipe σ2 vs = wipe σ vs ∧ tt σ2 H2 fun b H3 =>
        if b = true then te σ2 H3 fun y H4 => ∃ acc, H4 D = some (.lst acc) ∧ acc.length < sizeLine ∧ Nx (upd H4 D (.lst (acc ++ [y]))) else Nx H3) := by
  refine ⟨fun i m H => m = xs.length - i ∧ i ≤ xs.length ∧ Pv i H, ⟨xs.length, rfl, Nat.zero_le _, h0⟩, ?_⟩
  rintro i m H ⟨rfl, hi, p⟩
  obtain ⟨qx, qy, qz⟩ := hq i H p
  by_cases hlt : i < xs.length
  · have hx : xs[i]? = some xs[i] := List.getElem?_eq_getElem hlt
    have hlt2 : i < ys.length := by omega
    have hy : ys[i]? = some ys[i] := List.getElem?_eq_getElem hlt2
    have hlt3 : i < zs.length := by omega
    have hz : zs[i]? = some zs[i] := List.getElem?_eq_getElem hlt3
    refine .inr ⟨⟨xs, ys, zs, _, _, _, qx, qy, qz, hx, hy, hz⟩, Pv (i + 1), fun H' p' => ⟨xs.length - (i + 1), by omega, rfl, hlt, p'⟩, fun v H' y => ?_⟩
    obtain ⟨T, x', y', z', rfl, hT, rfl, f1, f2, f3⟩ := y
    exact hs i x' y' z' T _ (f1 xs qx) (f2 ys qy) (f3 zs qz) p hT
  · have e : i = xs.length := by omega
    subst e
    exact .inl ⟨⟨xs, ys, zs, qx, qy, qz, rfl, hl.symm, hl2.symm⟩, hd H p⟩
end
end Yk

set_option maxHeartbeats 1000000
/-! zip of two (lists or tuples), a list, a tuple walked to the end while an exception is handled. -/
namespace Yk
open PySem PySem.Spec PyProof.Rows L2 L2H HotX
section
variable {prog : Program} {w : World} {A : Around} {E : Value → Shared → Prop} {s : Shared}
theorem hot_keep {x1 : Addr} {h h' : Heap} (hot : HotAt A x1 h) (k : ∀ o, h.get? x1 = some o → h'.get? x1 = some o) : HotAt A x1 h' := by
  obtain ⟨hh, o, vs, h1, d1, c1⟩ := hot
  exact ⟨hh, o, vs, k _ h1, d1, c1⟩
/-- a StopIteration is made and raised -/
theorem stop_hot {α : Type} {x1 : Addr} {Q : α → Shared → Prop} (hot : HotAt A x1 s.heap)
    (hE : ∀ h' e, (∀ b o, s.heap.get? b = some o → h'.get? b = some o) → (∃ o, h'.get? e = some o ∧ o.cls = .type "StopIteration") → E (.ref e) { s with heap := h' }) :
    wpAny (model prog w) A (newExc (.type "StopIteration") [] >>= fun e => (raiseNew e : Sem α)) Q E s := by
  refine wpAny_bind ?_
  simp only [newExc, newTuple]
  refine wpAny_bind (wpAny_newObj_type ?_ (by size_fits))
  refine wpAny_bind (m := firstArgMember _ _) (wpAny_of_eq (a := Value.none) (by first | rfl | (simp only [firstArgMember]; rfl)) (wpAny_newObj_type ?_ (by size_fits)))
  have up : ∀ {b : Addr} {o u v : Obj}, s.heap.get? b = some o → ((s.heap.push u).push v).get? b = some o := fun e => Heap.get?_push_of_some _ (Heap.get?_push_of_some _ e)
  obtain ⟨hh, o1, vs1, h1, d1, c1⟩ := hot
  refine raiseNew_hot ⟨hh, o1, vs1, up h1, d1, c1⟩ (Nat.ne_of_lt (Heap.lt_size (Heap.get?_push_of_some _ h1))) (Heap.get?_push_size _ rfl) rfl (by first | (simp; done) | (simp; omega)) ?_
  refine hE _ _ (fun b ob e => ?_) ⟨_, Heap.get?_update_self _ (Heap.get?_push_size _ rfl) rfl, rfl⟩
  rw [Heap.get?_update_other _ _ (Nat.ne_of_gt (Heap.lt_size (Heap.get?_push_of_some _ e)))]
  exact up e
theorem endTup_hot {it l x1 : Addr} {i : Nat} {items : Array Value} {Q : Fin → Shared → Prop} (hot : HotAt A x1 s.heap) (hne : x1 ≠ it) (hit : s.heap.IsTupleIter it l i) (hl : s.heap.IsTuple l items) (hx : items[i]? = none)
    (hE : ∀ h' e, Heap.ExtBut it s.heap h' → (∃ o, h'.get? e = some o ∧ o.cls = .type "StopIteration") → E (.ref e) { s with heap := h' }) : wpAny (model prog w) A (Builtin.«tuple_iterator.__next__» ⟨[.ref it], []⟩) Q E s := by
  obtain ⟨o, ho, hc, hd⟩ := id hit
  obtain ⟨ol, hol, _, nl, hdl⟩ := hl
  show wpAny _ _ (field (.ref it) 0 >>= _) _ _ s
  refine wpAny_bind (wpAny_field ho hd (x := .ref l) rfl ?_)
  show wpAny _ _ (ite _ _ _) _ _ s
  rw [if_neg (show ¬ ((Value.ref l == Value.none) = true) from Bool.false_ne_true)]
  show wpAny _ _ (field (.ref it) 1 >>= _) _ _ s
  refine wpAny_bind (wpAny_field ho hd (x := .int i 0) rfl ?_)
  show wpAny _ _ (seqItems? (.ref l) >>= _) _ _ s
  refine wpAny_bind (wpAny_seqItems hol hdl ?_)
  simp only [Int.toNat_natCast, hx]
  refine wpAny_bind (wpAny_rule (wpAny_bind (wpAny_setField ho hd (by simp) (stop_hot (hot_keep hot fun o1 e1 => ?_) fun h' e k c => hE h' e (fun b ob hb q => k b ob (Heap.SameBut.extBut (Heap.SameBut.update ..) b ob hb q)) c))))
  rw [Heap.get?_update_other _ _ hne.symm]
  exact e1
theorem nextTup_hot {it l x1 : Addr} {i : Nat} {items : Array Value} {Q : Value → Shared → Prop} (hot : HotAt A x1 s.heap) (hne : x1 ≠ it) (hit : s.heap.IsTupleIter it l i) (hl : s.heap.IsTuple l items) (hx : items[i]? = none)
    (hE : ∀ h' e, Heap.ExtBut it s.heap h' → (∃ o, h'.get? e = some o ∧ o.cls = .type "StopIteration") → E (.ref e) { s with heap := h' }) : wpAny (model prog w) A (Builtin.SmallTypes.nextOf (.ref it)) Q E s := by
  unfold Builtin.SmallTypes.nextOf
  exact wpAny_bind (wpAny_callSpecial?_slot (name := Str.ofString "__next__") hit.typeIs F.slot_tuple_iterator_next (wpAny_call_entry F.slot_tuple_iterator_next hit.typeIs F.entry_tuple_iterator_next (endTup_hot (A := A.in1) hot hne hit hl hx hE) (F.args_tuple_iterator_next_1 _)))
theorem pyNextTup_hot {it l x1 : Addr} {i : Nat} {items : Array Value} {Q : Option Value → Shared → Prop} (hot : HotAt A x1 s.heap) (hne : x1 ≠ it) (hit : s.heap.IsTupleIter it l i) (hl : s.heap.IsTuple l items) (hx : items[i]? = none)
    (hQ : ∀ h', Heap.ExtBut it s.heap h' → Q none { s with heap := h' }) : wpAny (model prog w) A (pyNext (.ref it)) Q E s := by
  unfold pyNext
  refine wpAny_bind (wpAny_attempt (wpAny_callSpecial?_slot (name := Str.ofString "__next__") hit.typeIs F.slot_tuple_iterator_next (wpAny_call_entry F.slot_tuple_iterator_next hit.typeIs F.entry_tuple_iterator_next (endTup_hot (A := A.in1) hot hne hit hl hx fun h' e k c => ?_) (F.args_tuple_iterator_next_1 _))))
  obtain ⟨o, ho, hc⟩ := c
  exact wpAny_bind (wpAny_isInstance (T := "StopIteration") (b := true) ⟨o, ho, hc⟩ isSubtype_stop (wpAny_pure (hQ _ k)))
theorem endLst_hot {it l x1 : Addr} {i : Nat} {items : Array Value} {Q : Fin → Shared → Prop} (hot : HotAt A x1 s.heap) (hne : x1 ≠ it) (hit : s.heap.IsListIter it l i) (hl : s.heap.IsList l items) (hx : items[i]? = none)
    (hE : ∀ h' e, Heap.ExtBut it s.heap h' → (∃ o, h'.get? e = some o ∧ o.cls = .type "StopIteration") → E (.ref e) { s with heap := h' }) : wpAny (model prog w) A (Builtin.«list_iterator.__next__» ⟨[.ref it], []⟩) Q E s := by
  obtain ⟨o, ho, hc, hd⟩ := id hit
  obtain ⟨ol, hol, _, nl, hdl⟩ := hl
  show wpAny _ _ (field (.ref it) 0 >>= _) _ _ s
  refine wpAny_bind (wpAny_field ho hd (x := .ref l) rfl ?_)
  show wpAny _ _ (ite _ _ _) _ _ s
  rw [if_neg (show ¬ ((Value.ref l == Value.none) = true) from Bool.false_ne_true)]
  show wpAny _ _ (field (.ref it) 1 >>= _) _ _ s
  refine wpAny_bind (wpAny_field ho hd (x := .int i 0) rfl ?_)
  show wpAny _ _ (seqItems? (.ref l) >>= _) _ _ s
  refine wpAny_bind (wpAny_seqItems hol hdl ?_)
  simp only [Int.toNat_natCast, hx]
  refine wpAny_bind (wpAny_rule (wpAny_bind (wpAny_setField ho hd (by simp) (stop_hot (hot_keep hot fun o1 e1 => ?_) fun h' e k c => hE h' e (fun b ob hb q => k b ob (Heap.SameBut.extBut (Heap.SameBut.update ..) b ob hb q)) c))))
  rw [Heap.get?_update_other _ _ hne.symm]
  exact e1
theorem nextLst_hot {it l x1 : Addr} {i : Nat} {items : Array Value} {Q : Value → Shared → Prop} (hot : HotAt A x1 s.heap) (hne : x1 ≠ it) (hit : s.heap.IsListIter it l i) (hl : s.heap.IsList l items) (hx : items[i]? = none)
    (hE : ∀ h' e, Heap.ExtBut it s.heap h' → (∃ o, h'.get? e = some o ∧ o.cls = .type "StopIteration") → E (.ref e) { s with heap := h' }) : wpAny (model prog w) A (Builtin.SmallTypes.nextOf (.ref it)) Q E s := by
  unfold Builtin.SmallTypes.nextOf
  exact wpAny_bind (wpAny_callSpecial?_slot (name := Str.ofString "__next__") hit.typeIs slot_listiter_next (wpAny_call_entry slot_listiter_next hit.typeIs entry_listiter_next (endLst_hot (A := A.in1) hot hne hit hl hx hE) (args_listiter_next _)))
theorem pyNextLst_hot {it l x1 : Addr} {i : Nat} {items : Array Value} {Q : Option Value → Shared → Prop} (hot : HotAt A x1 s.heap) (hne : x1 ≠ it) (hit : s.heap.IsListIter it l i) (hl : s.heap.IsList l items) (hx : items[i]? = none)
    (hQ : ∀ h', Heap.ExtBut it s.heap h' → Q none { s with heap := h' }) : wpAny (model prog w) A (pyNext (.ref it)) Q E s := by
  unfold pyNext
  refine wpAny_bind (wpAny_attempt (wpAny_callSpecial?_slot (name := Str.ofString "__next__") hit.typeIs slot_listiter_next (wpAny_call_entry slot_listiter_next hit.typeIs entry_listiter_next (endLst_hot (A := A.in1) hot hne hit hl hx fun h' e k c => ?_) (args_listiter_next _))))
  obtain ⟨o, ho, hc⟩ := c
  exact wpAny_bind (wpAny_isInstance (T := "StopIteration") (b := true) ⟨o, ho, hc⟩ isSubtype_stop (wpAny_pure (hQ _ k)))
theorem unpackTup_hot {t x1 : Addr} {items : Array Value} {Q : List Value → Shared → Prop} (hot : HotAt A x1 s.heap) (ht : s.heap.IsTuple t items)
    (hQ : ∀ h', Heap.ExtBut s.heap.objs.size s.heap h' → Q items.toList { s with heap := h' }) : wpAny (model prog w) A (unpackItems (.ref t) items.size none) Q E s := by
  have hlt : t ≠ s.heap.objs.size := by obtain ⟨o, ho, _⟩ := ht; exact Nat.ne_of_lt (Heap.lt_size ho)
  have hx1 : x1 ≠ s.heap.objs.size := by obtain ⟨_, o, _, ho, _⟩ := hot; exact Nat.ne_of_lt (Heap.lt_size ho)
  unfold unpackItems notIterableAtAll
  refine wpAny_bind (wpAny_bind (wpAny_specialOf ht.typeIs F.slot_tuple_iter.lookup (wpAny_pure ?_)))
  simp only [Bool.false_eq_true, if_false]
  refine wpAny_bind (wpAny_holding (wpAny_pyIter_tuple ht (wpAny_bind (wpAny_holding (wpAny_draw_tuple hlt items.size 0 _ _ ⟨_, Heap.get?_push_size _ rfl, rfl, rfl⟩ (ht.push _) (by omega) fun h₁ hit₁ hs₁ => ?_)))))
  rw [show List.take items.size (List.drop 0 items.toList) = items.toList by rw [List.drop_zero]; exact List.take_of_length_le (by simp), if_neg (by simp)]
  refine wpAny_bind (wpAny_holding (pyNextTup_hot (hot_keep hot fun o e => hs₁.extBut _ _ hx1 (Heap.get?_push_of_some _ e)) hx1 hit₁ ((ht.push _).extBut hs₁.extBut hlt) (by simp) fun h₂ he₂ => ?_))
  simp only [Option.isSome_none, Bool.false_eq_true, if_false]
  exact wpAny_pure (hQ h₂ fun b o hb e => he₂ b o hb (hs₁.extBut b o hb (Heap.get?_push_of_some _ e)))
theorem assignTup_hot {env : Env} {elts : List Expr} {k} {pos : Pos} {t x1 : Addr} {items : Array Value} {Q : Unit → Shared → Prop} (hot : HotAt A x1 s.heap) (ht : s.heap.IsTuple t items)
    (hn : (assignEach elts env).length = items.size) (hstar : (assignEach elts env).findIdx? (·.1) = none)
    (h : ∀ h', Heap.ExtBut s.heap.objs.size s.heap h' → wpAny (model prog w) A (assignInOrder ((assignEach elts env).map (·.2)) items.toList) Q E { s with heap := h' }) :
    wpAny (model prog w) A (assign (.Tuple elts k pos) env (.ref t)) Q E s := by
  rw [arm_assign_Tuple]
  refine wpAny_bind (wpAny_standAt ?_)
  unfold unpack
  rw [hn, hstar]
  exact wpAny_bind (wpAny_holding (unpackTup_hot hot ht h))
end
theorem walksH {prog : Program} {w : World} {A : Around} {x1 : Addr} (I l : Addr) (hne : l ≠ I) (hx : x1 ≠ I) (items : Array Value) :
    Walks prog w A I [I, l, x1] [I] items.size (fun i v => items[i]? = some v) (fun i h => h.IsListIter I l i ∧ h.IsList l items ∧ HotAt A x1 h) where
  sub := fun b hb => by simp at hb; simp [hb]
  frame := fun _ _ _ st hk => ⟨st.1.at fun o e => hk I (by simp) o e, st.2.1.at fun o e => hk l (by simp) o e, hot_keep st.2.2 fun o e => hk x1 (by simp) o e⟩
  item := fun i s Q E hi st hQ => wpAny_pyNext_list_item st.1 st.2.1 (x := items[i]) (by simp [hi]) fun h' hit' hs' =>
    hQ _ h' s.toks (by simp [hi]) ⟨hit', st.2.1.extBut hs'.extBut hne, hot_keep st.2.2 fun o e => hs'.extBut _ _ hx e⟩ fun b o hb e => hs'.extBut b o (fun h => hb (by simp [h])) e
  done := fun s Q E st hQ => pyNextLst_hot st.2.2 hx st.1 st.2.1 (by simp) fun h' he' => hQ h' s.toks fun b o hb e => he' b o (fun h => hb (by simp [h])) e
  self := fun i s Q E st hQ => wpAny_pyIter_listiter st.1 hQ
section
variable {X : Cx}
theorem pg_tupH {es : List Expr} {k : Nat} {t : TGs} {n : Nat} {pos : Pos} (hc : HotC X) (h : PGs X es t) (hn : (assignEach es X.env).length = n := by rfl) (hst : (assignEach es X.env).findIdx? (·.1) = none := by rfl) : PG X (.Tuple es k pos) (gTup X.K n t) := by
  refine ⟨fun pins s σ H v u Q I r hw => ?_⟩
  obtain ⟨a, xs, e1, hq, hl, hw⟩ := hw
  subst e1
  cases r
  obtain ⟨its, rv, ht, hz⟩ := I.tuple hq
  obtain ⟨x1, hot⟩ := hc.at I
  exact assignTup_hot hot ht (by simp [hn, ← hl, rv.length]) hst fun h' hx => h.run pins _ σ H xs _ Q (I.kept (t' := s.toks) fun b o e => hx b o (Nat.ne_of_lt (Heap.lt_size e)) e) (by simpa using rv) hw
theorem cr_allH (hc : HotC X) : CallR X (.builtin "all") (rAll X.K) := by
  intro pins s σ H vs us Q I r h
  obtain ⟨a, bs, rfl, hs, q⟩ := h
  obtain ⟨its, rv, hl, _⟩ := I.list hs
  rw [Vals.ref1 r]
  have hb := rv.bls
  obtain ⟨x1, hot⟩ := hc.at I
  have hx1 : x1 < s.heap.objs.size := by obtain ⟨_, o, _, ho, _⟩ := hot; exact Heap.lt_size ho
  refine call_all_walk (iter_any hl.isList fun s₂ e2 st hne => ?_)
  subst e2
  have hot2 : HotAt X.A.in1 x1 (s.heap.push { cls := .type "list_iterator", data := .fields #[.ref a, .int 0 0] }) := hot_keep (A := X.A.in1) (h := s.heap) hot fun o e => Heap.get?_push_of_some _ e
  refine ⟨_, _, _, _, _, _, _, rfl, walksH (A := X.A.in1) _ a hne (Nat.ne_of_lt hx1) its.toArray, ⟨st.1, st.2, hot2⟩, truth_bools hb, fun h' tk hk => ?_⟩
  refine ⟨.bl _, H, I.kept fun b o eo => hk b o (fun hmem => ?_) (Heap.get?_push_of_some _ eo), ?_, q⟩
  · rcases List.mem_cons.mp hmem with e1 | hmem
    · exact absurd (e1 ▸ Heap.lt_size eo) (Nat.lt_irrefl _)
    · cases hmem
  · show Value.bool _ = Value.bool _
    rw [← L2.all_range, hb, List.size_toArray, List.length_map]
end
end Yk

set_option maxHeartbeats 1000000
namespace Yk
open PySem PySem.Spec PyProof.Rows L2 L2H HotX
/-- what a list or a tuple draws there -/
theorem drawsH {prog : Program} {w : World} {A : Around} {x1 : Addr} (k : Bool) (it l : Addr) (hne : l ≠ it) (hx : x1 ≠ it) (items : Array Value) :
    Draws prog w A it [it, l, x1] items.size (fun i v => items[i]? = some v) (fun i h => ItB k h it l i ∧ SeB k h l items ∧ HotAt A x1 h) where
  live := fun _ _ st => let ⟨o, ho, _⟩ := st.1.ob; ⟨o, ho⟩
  frame := fun i h h' st hk => ⟨st.1.at_ fun o e => hk it (by simp) o e, by
    have hs := st.2.1
    cases k with
    | true => exact Heap.IsList.at hs fun o e => hk l (by simp) o e
    | false => exact Heap.IsTuple.at hs fun o e => hk l (by simp) o e, hot_keep st.2.2 fun o e => hk x1 (by simp) o e⟩
  item := fun i s Q E hi st hQ => by
    obtain ⟨a, b, c⟩ := st
    cases k with
    | true => exact wpAny_nextOf_list_item a b (x := items[i]) (by simp [hi]) fun h' hit' hs' => hQ _ h' s.toks (by simp [hi]) ⟨hit', Heap.IsList.extBut b hs'.extBut hne, hot_keep c fun o e => hs'.extBut _ _ hx e⟩ hs'
    | false => exact wpAny_nextOf_tuple_item a b (x := items[i]) (by simp [hi]) fun h' hit' hs' => hQ _ h' s.toks (by simp [hi]) ⟨hit', Heap.IsTuple.extBut b hs'.extBut hne, hot_keep c fun o e => hs'.extBut _ _ hx e⟩ hs'
  done := fun s Q E st hE => by
    obtain ⟨a, b, c⟩ := st
    cases k with
    | true => exact nextLst_hot c hx a b (by simp) hE
    | false => exact nextTup_hot c hx a b (by simp) hE
/-- two as they stand at each turn, the items in new pairs -/
def ItZ2 (K : PySem.W.Frag) (k1 k2 : Bool) (a b : Addr) : It :=
  ⟨fun i H => ∃ (xs ys : List V) (x y : V), SqB K k1 H a xs ∧ SqB K k2 H b ys ∧ xs[i]? = some x ∧ ys[i]? = some y,
    fun i H v H' => ∃ T x y, v = .ref T ∧ H T = none ∧ H' = upd H T (.tup [x, y]) ∧ (∀ xs, SqB K k1 H a xs → xs[i]? = some x) ∧ ∀ ys, SqB K k2 H b ys → ys[i]? = some y,
    fun i H => ∃ xs ys : List V, SqB K k1 H a xs ∧ SqB K k2 H b ys ∧ xs.length = i ∧ ys.length = i⟩
structure Z2Apart (z TI TO i1 i2 a b : Addr) : Prop where
  nd : [z, TI, TO, i1, i2].Nodup
  a : a ∉ [z, TI, TO, i1, i2]
  b : b ∉ [z, TI, TO, i1, i2]
theorem Z2Apart.sep {z TI TO i1 i2 a b x1 : Addr} (D : Z2Apart z TI TO i1 i2 a b) (hx : x1 ∉ [z, TI, TO, i1, i2]) : ZipSep2 z TI TO i1 i2 [i1, a, x1] [i2, b, x1] := by
  have h := D.nd
  have ha := D.a
  have hb := D.b
  simp only [List.nodup_cons, List.mem_cons, List.not_mem_nil, or_false, not_or] at h ha hb hx
  constructor <;> (try simp only [List.mem_cons, List.not_mem_nil, or_false, not_or, true_or]) <;> grind
theorem turn_z2H {P : Program} {w : World} {K : PySem.W.Frag} {elts : List Expr} {kk : Nat} {tpos : Pos} {k1 k2 : Bool} {a b z TI TO i1 i2 : Addr} (D : Z2Apart z TI TO i1 i2 a b) :
    TurnH P w K (.Tuple elts kk tpos) (ItZ2 K k1 k2 a b) [z, TI, TO, i1, i2] z (fun i h => IsZip h z TI TO .none ∧ IsTupOf2 h TI (.ref i1) (.ref i2) ∧ (∃ x y, IsTupOf2 h TO x y) ∧ ItB k1 h i1 a i ∧ ItB k2 h i2 b i) where
  mem := by simp
  obj := fun i h st d hd => by
    obtain ⟨hz, hTI, ⟨x, y, hTO⟩, h1, h2⟩ := st
    have e' : d = z ∨ d = TI ∨ d = TO ∨ d = i1 ∨ d = i2 := by simpa using hd
    rcases e' with q | q | q | q | q
    · rw [q]; exact ⟨_, hz, fun v q => nomatch q⟩
    · rw [q]; exact ⟨_, hTI, fun v q => nomatch q⟩
    · rw [q]; exact ⟨_, hTO, fun v q => nomatch q⟩
    · rw [q]; exact h1.ob
    · rw [q]; exact h2.ob
  keep := fun i h h' st k => by
    obtain ⟨hz, hTI, ⟨x, y, hTO⟩, h1, h2⟩ := st
    exact ⟨k z (by simp) _ hz, k TI (by simp) _ hTI, ⟨x, y, k TO (by simp) _ hTO⟩, h1.at_ fun o q => k i1 (by simp) o q, h2.at_ fun o q => k i2 (by simp) o q⟩
  item := by
    intro X hP hw hK hc i pins s σ H E I hf st hg
    subst hP hw hK
    obtain ⟨hz, hTI, ⟨x0, y0, hTO⟩, h1, h2⟩ := st
    obtain ⟨xs, ys, x, y, hqx, hqy, hx, hy⟩ := hg
    obtain ⟨its, rv, p, la⟩ := seB_of I hqx
    obtain ⟨its2, rv2, p2, lb⟩ := seB_of I hqy
    obtain ⟨u, hu, ru⟩ := rv.get hx
    obtain ⟨u2, hu2, ru2⟩ := rv2.get hy
    obtain ⟨q, ⟨hh, vs1, d1, c1⟩, hq⟩ := hc
    have hx1 : q.1 ∉ [z, TI, TO, i1, i2] := fun m => (hf q.1 m).2.2.2.2.2 q (List.mem_append_left _ hq) rfl
    have hot : HotAt X.A.in1 q.1 s.heap := ⟨hh, q.2, vs1, (I.pin q (List.mem_append_left _ hq)).1, d1, c1⟩
    have S := D.sep hx1
    have lt1 : i < its.toArray.size := by simpa using (List.getElem?_eq_some_iff.mp hu).1
    have lt2 : i < its2.toArray.size := by simpa using (List.getElem?_eq_some_iff.mp hu2).1
    have na : a ≠ i1 := fun q => D.a (by rw [q]; simp)
    have nb : b ≠ i2 := fun q => D.b (by rw [q]; simp)
    have nx1 : q.1 ≠ i1 := fun z => hx1 (by rw [z]; simp)
    have nx2 : q.1 ≠ i2 := fun z => hx1 (by rw [z]; simp)
    have hzl : z < s.heap.objs.size := Heap.lt_size hz
    refine wpAny_pyNext_zipD2_item S (drawsH k1 i1 a na nx1 its.toArray) (drawsH k2 i2 b nb nx2 its2.toArray) hz hTI hTO ⟨h1, p, hot⟩ ⟨h2, p2, hot⟩ lt1 lt2 fun x1 x2 h' tk e1 e2 z' TO' s1 s2 hT hsz hk => ?_
    have f1 : x1 = u := by
      have e1 : its[i]? = some x1 := by simpa using e1
      rw [hu] at e1
      exact (Option.some.inj e1).symm
    have f2 : x2 = u2 := by
      have e2 : its2[i]? = some x2 := by simpa using e2
      rw [hu2] at e2
      exact (Option.some.inj e2).symm
    subst f1 f2
    refine ⟨_, rfl, wpAny_letOwnedTupleGo_zip (s := { s with heap := h', toks := tk }) z' fun h'' z'' sb => ?_⟩
    have hT2 : h''.get? s.heap.objs.size = some { cls := .type "tuple", data := .seq #[x1, x2] } := (sb.2 _ (Nat.ne_of_gt hzl)).trans hT
    have new : ObjOk X.prog X.w (upd H s.heap.objs.size (.tup [x, y])) h'' s.heap.objs.size (.tup [x, y]) :=
      ⟨by show 2 ≤ sizeLine; decide, [x1, x2], .cons ru (.cons ru2 .nil), ⟨_, hT2, rfl, _, rfl⟩⟩
    have I1 : Inv X pins σ (upd H s.heap.objs.size (.tup [x, y])) { s with heap := h'', toks := tk } :=
      I.turnedNew (t' := tk) (ch := [z, TI, TO, i1, i2]) (fun d o hb q => (sb.2 d (fun q' => hb (by simp [q']))).trans (hk d o (fun q' => hb (by simp [q'])) (fun q' => hb (by simp [q'])) (fun q' => hb (by simp [q'])) (fun q' => hb (by simp [q'])) q)) hf (Nat.le_refl _) new
    refine ⟨.ref s.heap.objs.size, _, I1, rfl, ⟨_, x, y, rfl, I.hok.fresh (Nat.le_refl _), rfl, fun l hl => by rw [sqB_inj I hqx hl]; exact hx, fun l hl => by rw [sqB_inj I hqy hl]; exact hy⟩, ⟨z'', ?_, ⟨x1, x2, ?_⟩, ?_, ?_⟩, fun d hd => ?_⟩
    · exact (sb.2 _ S.TIz).trans (hk _ _ S.TIz S.TITO S.TIi1 S.TIi2 hTI)
    · exact (sb.2 _ S.TOz).trans TO'
    · exact s1.1.at_ fun o q => (sb.2 _ (S.zi1.symm)).trans q
    · exact s2.1.at_ fun o q => (sb.2 _ (S.zi2.symm)).trans q
    · have hlt : d < s.heap.objs.size := by
        have e' : d = z ∨ d = TI ∨ d = TO ∨ d = i1 ∨ d = i2 := by simpa using hd
        rcases e' with q | q | q | q | q
        · rw [q]; exact hzl
        · rw [q]; exact Heap.lt_size hTI
        · rw [q]; exact Heap.lt_size hTO
        · rw [q]; obtain ⟨_, e, _⟩ := h1.ob; exact Heap.lt_size e
        · rw [q]; obtain ⟨_, e, _⟩ := h2.ob; exact Heap.lt_size e
      rw [upd_ne (Nat.ne_of_lt hlt)]
      exact (hf d hd).1
  done := by
    intro X hP hw hK hc i pins s σ H E I hf st hg
    subst hP hw hK
    obtain ⟨hz, hTI, ⟨x0, y0, hTO⟩, h1, h2⟩ := st
    obtain ⟨xs, ys, hqx, hqy, e1, e2⟩ := hg
    obtain ⟨its, rv, p, la⟩ := seB_of I hqx
    obtain ⟨its2, rv2, p2, lb⟩ := seB_of I hqy
    obtain ⟨q, ⟨hh, vs1, d1, c1⟩, hq⟩ := hc
    have hx1 : q.1 ∉ [z, TI, TO, i1, i2] := fun m => (hf q.1 m).2.2.2.2.2 q (List.mem_append_left _ hq) rfl
    have hot : HotAt X.A.in1 q.1 s.heap := ⟨hh, q.2, vs1, (I.pin q (List.mem_append_left _ hq)).1, d1, c1⟩
    have S := D.sep hx1
    have l1 : i = its.toArray.size := by have := rv.length; simp; omega
    have l2 : i = its2.toArray.size := by have := rv2.length; simp; omega
    have na : a ≠ i1 := fun q => D.a (by rw [q]; simp)
    have nb : b ≠ i2 := fun q => D.b (by rw [q]; simp)
    have nx1 : q.1 ≠ i1 := fun z => hx1 (by rw [z]; simp)
    have nx2 : q.1 ≠ i2 := fun z => hx1 (by rw [z]; simp)
    exact wpAny_pyNext_zipD2_end S (drawsH k1 i1 a na nx1 its.toArray) (drawsH k2 i2 b nb nx2 its2.toArray) hz hTI hTO ⟨h1, p, hot⟩ ⟨h2, p2, hot⟩ (Nat.le_of_eq l1) (Nat.le_of_eq l2) (.inl l1) fun h' tk hk =>
      ⟨rfl, I.turnedL (t' := tk) (ch := [z, TI, TO, i1, i2]) (fun d o hb q => hk d o (fun q' => hb (by simp [q'])) (fun q' => hb (by simp [q'])) (fun q' => hb (by simp [q'])) (fun q' => hb (by simp [q'])) q) hf⟩
  self := fun A i s Q E st h => wpAny_pyIter_zip st.1 h
def iZip2 (K : PySem.W.Frag) (ta : TA) : TI := fun σ H R => ta σ H fun vs H1 => ∃ (k1 k2 : Bool) (a b : Addr) (xs ys : List V), vs = [.ref a, .ref b] ∧ SqB K k1 H1 a xs ∧ SqB K k2 H1 b ys ∧ R (ItZ2 K k1 k2 a b) H1
theorem z2_apart (I l1 l2 : Nat) (h1 : l1 < I) (h2 : l2 < I) : Z2Apart (I + 4) (I + 2) (I + 3) I (I + 1) l1 l2 := by
  constructor <;> (first | simp | skip) <;> (try refine ⟨?_, ?_⟩) <;> grind
theorem pi_zip2H {X : Cx} {e e2 : Expr} {ta : TA} {p pos tpos : Pos} {elts : List Expr} {kk : Nat} (hg : Gl X "zip") (hm : X.mg "zip" = none) (ha : PA X [e, e2] ta)
    (hs : starEach [e, e2] X.env = (false, eval e X.env) :: starEach [e2] X.env := by rfl) (hpl : (backTo pos (starEach [e2] X.env)).any (·.1) = false := by rfl) :
    PIH X (.Tuple elts kk tpos) (.Call (.Name "zip" p) [e, e2] [] pos) (iZip2 X.K ta) := by
  refine ⟨fun pins s σ H R I h => ?_⟩
  refine Call_ (ld_blt I hg hm PyProof.Rows.boot_zip (PyProof.Rows.callWith_type1 (thn (ha.run pos pins s σ H _ I h) fun us s1 ⟨vs, H1, I1, r1, q1⟩ => ?_) hs hpl))
  obtain ⟨k1, k2, a, b, xs, ys, ex, hqx, hqy, q⟩ := q1
  subst ex
  cases r1 with
  | cons r rr =>
    cases rr with
    | cons r' rr =>
      cases rr
      cases r
      cases r'
      have fresh5 : ∀ d, d ∈ [s1.heap.objs.size + 4, s1.heap.objs.size + 2, s1.heap.objs.size + 3, s1.heap.objs.size, s1.heap.objs.size + 1] → FpOk X pins H1 d := fun d hd => by
        have hle : s1.heap.objs.size ≤ d := by
          simp only [List.mem_cons, List.not_mem_nil, or_false] at hd
          rcases hd with z | z | z | z | z <;> rw [z] <;> omega
        exact I1.fpOk hle (I1.hok.fresh hle)
      obtain ⟨its, rv, p1, la⟩ := seB_of I1 hqx
      obtain ⟨its2, rv2, p2, lb⟩ := seB_of I1 hqy
      refine zip_begins2 (beginsB k1 a its.toArray) (beginsB k2 b its2.toArray) p1 p2 fun h' hz hTI hTO h1 h2 hsz hk => wpAny_pyIter_zip hz ?_
      have I2 : Inv X pins σ H1 { s1 with heap := h' } := I1.kept (t' := s1.toks) hk
      exact ⟨s1.heap.objs.size + 4, [s1.heap.objs.size + 4, s1.heap.objs.size + 2, s1.heap.objs.size + 3, s1.heap.objs.size, s1.heap.objs.size + 1], _, _, H1, rfl, I2, turn_z2H (z2_apart s1.heap.objs.size a b la lb), ⟨hz, hTI, ⟨_, _, hTO⟩, itB_new h1, itB_new h2⟩, fresh5, q⟩
end Yk

set_option maxHeartbeats 1000000
/-! A comprehension while an exception is handled; defs that are called there. -/
namespace Yk
open PySem PySem.Spec PyProof.Rows L2 L2H HotX
/-- a block's context there: it bears the handled exception too -/
abbrev blkH (X : Cx) (s : Shared) (H : Hp) (scope : Scope) (cenv : Env) (fp : List Addr) : Cx := { X.blk s H scope cenv fp with pn := X.pn }
theorem inv_blkH {X : Cx} {pins : List (Addr × Obj)} {σ σ' : L2.St} {H : Hp} {s s' : Shared} {scope : Scope} {cenv : Env} {fp : List Addr} (I : Inv X pins σ H s) (J : Inv (X.blk s H scope cenv fp) [] σ' H s')
    (k : ∀ b o, s.heap.get? b = some o → s'.heap.get? b = some o) (hL : s.heap.objs.size ≤ cenv.locals) : Inv (blkH X s H scope cenv fp) [] σ' H s' := by
  refine ⟨⟨J.ok.mod, J.ok.kind, J.ok.glob, J.ok.blt, J.ok.above, J.ok.inj, J.ok.has, J.ok.cab, J.ok.hd, J.ok.frames, J.ok.stk, J.ok.exf, J.ok.bs, J.ok.bsz, J.ok.noex, J.ok.exfs, J.ok.funs, J.ok.frf⟩, J.os, J.bare, J.base, J.loc, J.cell, J.free, J.freeC, fun p hp => ?_, J.hok, J.len⟩
  have hp1 : p ∈ X.pn := by simpa using hp
  obtain ⟨a, b, c, d, e⟩ := I.pin p (List.mem_append_left _ hp1)
  refine ⟨k _ _ a, b, fun z => ?_, fun z => ?_, e⟩
  · have lt := Heap.lt_size a
    rw [z] at lt
    exact absurd (Nat.lt_of_lt_of_le lt hL) (Nat.lt_irrefl _)
  · exact (List.mem_cons.mp (I.stkSub p.1 z)).elim c d
section
variable {X : Cx}
theorem lcH_core {pins : List (Addr × Obj)} {s : Shared} {σ : L2.St} {H : Hp} {Q : VK} {elt tg iter : Expr} {ifs : List Expr} {scope : Scope} {own : List (Str × Nat)} {pos pos' : Pos} {wi : TI} {g : TG} {tt : TT} {te : TE} {use : Option (Value → Sem Unit)} {Qf : Value → Shared → Prop}
    (hc : HotC X) (hN : X.N.Nodup) (I : Inv X pins σ H s) (hi : PIH X tg iter wi) (ok : BlkOk X.N X.env.scope scope own)
    (hg : ∀ (s : Shared) (H : Hp) (C : Addr) (cl : List (Str × Addr)) (fp : List Addr), PG (blkH X s H scope (compEnvC scope cl C X.env) fp) tg g) (ht : ∀ (s : Shared) (H : Hp) (C : Addr) (cl : List (Str × Addr)) (fp : List Addr), PTs (blkH X s H scope (compEnvC scope cl C X.env) fp) ifs tt)
    (he : ∀ (s : Shared) (H : Hp) (C : Addr) (cl : List (Str × Addr)) (fp : List Addr), PE (blkH X s H scope (compEnvC scope cl C X.env) fp) elt te) (hs : ∀ x, foldedSetIterable iter X.env x = pure x) (h : tLc wi g tt te (own.map (·.2)) σ H Q)
    (hRR : ∀ D C s' m H', Inv X pins σ H' s' → Q (.ref D) H' → s'.heap.Ns C m → FpOk X pins H' C → compPost (model X.prog X.w) X.A X.xe use Qf (.ref D) C (.ok .next) s') :
    wpAny (model X.prog X.w) X.A (comprehension (.ListComp elt [⟨tg, iter, ifs, 0⟩] scope pos) scope X.env pos' (newList []) false (eval iter X.env) use) Qf X.xe s := by
  have hfree : ∀ y ∈ scope.names, y.2 = .free → ∃ c, X.env.cells.lookup y.1 = some c := fun y hy e => by
    rcases ok.free y hy e with k | k
    · exact I.ok.has _ (.inl k)
    · exact I.ok.has _ (.inr k)
  refine wpAny_comprehension_free (use := use) rfl hs (closure_ok hfree) ok.kind (fun y hy e => by rw [ok.uniq y hy, e]) (thn (hi.run pins s σ H _ I h) fun xv s1 hx => thn hx fun itv s2 h2 => ?_)
  obtain ⟨it, fp, tn, J, H2, e, I2, T, st2, f2, q⟩ := h2
  subst e
  refine wpAny_newObj_type (newEnv_comp ?_) (by show 0 ≤ sizeLine; decide)
  generalize hD : s2.heap.objs.size = D
  have hDn : H2 D = none := I2.hok.fresh (Nat.le_of_eq hD)
  obtain ⟨W, ⟨m0, w0⟩, turn⟩ := q D hDn
  generalize hs3 : ({ s2 with heap := s2.heap.push { cls := .type "list", data := .seq ([] : List Value).toArray } } : Shared) = s3
  have h3 : s3.heap = s2.heap.push { cls := .type "list", data := .seq ([] : List Value).toArray } := by rw [← hs3]
  have I3 : Inv X pins σ (upd H2 D (.lst [])) s3 := by
    rw [← hs3]
    refine I2.laid (t' := s2.toks) (fun b o e => Heap.get?_push_of_some _ e) (Nat.le_of_eq hD) ⟨Nat.zero_le _, [], 0, .nil, ?_⟩
    rw [← hD]
    exact Heap.get?_push_size _ rfl
  have f3 : ∀ b ∈ fp, FpOk X pins (upd H2 D (.lst [])) b ∧ b < s3.heap.objs.size := fun b hb => by
    have hlt : b < s2.heap.objs.size := by
      obtain ⟨o, e, _⟩ := T.obj _ _ st2 b hb
      exact Heap.lt_size e
    refine ⟨⟨?_, (f2 b hb).2⟩, by rw [h3, Heap.size_push]; exact Nat.lt_succ_of_lt hlt⟩
    rw [upd_ne (by rw [← hD]; exact Nat.ne_of_lt hlt)]
    exact (f2 b hb).1
  have st3 : tn 0 s3.heap := T.keep _ _ _ st2 fun b _ o e => by rw [h3]; exact Heap.get?_push_of_some _ e
  have pg := hg s3 (upd H2 D (.lst [])) s3.heap.objs.size (cellsFrom (s3.heap.objs.size + 1) scope.names (cloFrom X.env.cells scope.names [])) fp
  have pt := ht s3 (upd H2 D (.lst [])) s3.heap.objs.size (cellsFrom (s3.heap.objs.size + 1) scope.names (cloFrom X.env.cells scope.names [])) fp
  have pe := he s3 (upd H2 D (.lst [])) s3.heap.objs.size (cellsFrom (s3.heap.objs.size + 1) scope.names (cloFrom X.env.cells scope.names [])) fp
  have k34 : ∀ b o, s3.heap.get? b = some o → (pushCells (s3.heap.push { cls := .type "dict", data := .dict #[] }) scope.names).get? b = some o := fun b o e => pushCells_keeps _ _ _ _ (Heap.get?_push_of_some _ e)
  have I4 := inv_blkH I3 (block_start I3 ok hN f3) k34 (Nat.le_refl _)
  show codeAny _ _ (.compStart (.ListComp elt [⟨tg, iter, ifs, 0⟩] scope pos) 0 (.ref it) (.ref D) (compEnvC scope (cellsFrom (s3.heap.objs.size + 1) scope.names (cloFrom X.env.cells scope.names [])) s3.heap.objs.size X.env)) (compPost (model X.prog X.w) X.A X.xe use Qf (.ref D) s3.heap.objs.size) { s3 with heap := pushCells (s3.heap.push { cls := .type "dict", data := .dict #[] }) scope.names }
  have nfp : ∀ b ∈ fp, (upd H2 D (.lst [])) b = none := fun b hb => (f3 b hb).1.1
  generalize hce : compEnvC scope (cellsFrom (s3.heap.objs.size + 1) scope.names (cloFrom X.env.cells scope.names [])) s3.heap.objs.size X.env = ce at I4 pg pt pe ⊢
  have cL : ce.locals = s3.heap.objs.size := by subst hce; rfl
  generalize hH3 : upd H2 D (.lst []) = H3 at I3 I4 pg pt pe w0 nfp f3
  generalize hs4 : ({ s3 with heap := pushCells (s3.heap.push { cls := .type "dict", data := .dict #[] }) scope.names } : Shared) = s4 at I4 ⊢
  have st4 : tn 0 s4.heap := T.keep _ _ _ st3 fun b _ o e => by rw [← hs4]; exact k34 _ _ e
  have hcB : HotC (blkH X s3 H3 scope ce fp) := hc
  have stat : ∀ {σ' : L2.St} {H' : Hp} {s' : Shared}, Inv (blkH X s3 H3 scope ce fp) [] σ' H' s' → (∀ b ∈ fp, H' b = none) → ∀ b ∈ fp, FpOk (blkH X s3 H3 scope ce fp) [] H' b := fun {σ' H' s'} I' hn b hb =>
    ⟨hn b hb, (I'.ok.exf b hb).1, I'.ok.exfs b hb, .inl hb, fun x c e => (I'.ok.exf b hb).2 x c e, fun p hp => (f3 b hb).1.2.2.2.2.2 p (List.mem_append_left _ (by simpa using hp))⟩
  have loop : codeAny (model X.prog X.w) X.A (.compLoop (.ListComp elt [⟨tg, iter, ifs, 0⟩] scope pos) 0 (.ref it) (.ref D) ce) (compPost (model X.prog X.w) X.A X.xe use Qf (.ref D) s3.heap.objs.size) s4 := by
    refine compLoop_any (fun n s' => ∃ i H', Inv (blkH X s3 H3 scope ce fp) [] (wipe σ (own.map (·.2))) H' s' ∧ tn i s'.heap ∧ (∀ b ∈ fp, H' b = none) ∧ W i n H') ?_ m0 ⟨0, H3, I4, st4, nfp, w0⟩
    rintro n s5 ⟨i, H5, I5, st5, n5, w5⟩
    rcases turn i n H5 w5 with ⟨stop, qq⟩ | ⟨go, Nx, hNx, step⟩
    · refine thnF (T.done (blkH X s3 H3 scope ce fp) rfl rfl rfl hcB i [] s5 _ H5 (fun _ _ => False) I5 (stat I5 n5) st5 stop) fun r s6 ⟨hr, I6⟩ => ?_
      subst hr
      have I7 : Inv X pins σ H5 s6 := I3.call' (ch := fp) I6.os I6.base I6.hok I6.bare fun b hb => ⟨(f3 b hb).1.2.2.2.1, (f3 b hb).1.2.1, (f3 b hb).1.2.2.2.2.1, (f3 b hb).1.2.2.2.2.2⟩
      have nC : H5 s3.heap.objs.size = none := by
        have z : H5 ce.locals = none := I6.free
        rw [cL] at z
        exact z
      obtain ⟨m, hn, _⟩ := I6.loc
      have hn : s6.heap.Ns ce.locals m := hn
      rw [cL] at hn
      exact hRR D s3.heap.objs.size s6 m H5 I7 qq hn (I3.fpOk (Nat.le_refl _) nC)
    · refine thnF (T.item (blkH X s3 H3 scope ce fp) rfl rfl rfl hcB i [] s5 _ H5 (fun _ _ => False) I5 (stat I5 n5) st5 go) fun r s6 ⟨u, hr, h6⟩ => ?_
      subst hr
      refine thnF h6 fun _ s7 ⟨x, H7, I7, r7, y7, st7, n7⟩ => ?_
      have I7' := I7.pinned (stat I7 n7) (T.obj _ _ st7)
      refine thnF (pg.run _ s7 _ H7 x u _ I7' r7 (step x H7 y7)) fun _ s8 ⟨σ8, H8, I8, hw8, q8⟩ => thnF (pt.run _ s8 σ8 H8 _ I8 q8) fun b s9 ⟨H9, I9, q9⟩ => ?_
      have fin : ∀ {s' : Shared} {H' : Hp}, Inv (blkH X s3 H3 scope ce fp) ([] ++ pinsAt fp s7.heap) σ8 H' s' → Nx H' → ∃ m, m < n ∧ ∃ i H', Inv (blkH X s3 H3 scope ce fp) [] (wipe σ (own.map (·.2))) H' s' ∧ tn i s'.heap ∧ (∀ b ∈ fp, H' b = none) ∧ W i m H' := fun {s' H'} I' nx => by
        obtain ⟨m', hm, w'⟩ := hNx H' nx
        have pin' : ∀ b ∈ fp, ∀ o, s7.heap.get? b = some o → s'.heap.get? b = some o ∧ H' b = none := fun b hb o e =>
          let z := I'.pin (b, o) (List.mem_append_right _ (List.mem_append_right _ (mem_pinsAt hb e)))
          ⟨z.1, z.2.1⟩
        refine ⟨m', hm, i + 1, H', (I'.unpinned (pins := [])).weak (by rw [← hw8, wipe_length]) (fun j v e => ?_), T.keep _ _ _ st7 fun b hb o e => (pin' b hb o e).1, fun b hb => ?_, w'⟩
        · rw [← hw8] at e
          exact (wipe_some e).1
        · obtain ⟨o, e, _⟩ := T.obj _ _ st7 b hb
          exact (pin' b hb o e).2
      cases b with
      | false =>
        simp only [Bool.false_eq_true, if_false] at q9 ⊢
        exact fin I9 q9
      | true =>
        simp only [if_true] at q9 ⊢
        refine thnF (pe.run _ s9 σ8 H9 _ I9 q9) fun z s10 ⟨yv, H10, I10, r10, acc, hD10, hz10, nx⟩ => ?_
        exact app_ok (X := blkH X s3 H3 scope ce fp) I10 hD10 hz10 r10 fun s11 I11 => fin I11 nx
  exact codeAny_compStart_list loop (T.self X.A 0 _ _ _ st4 loop)
theorem pe_lcH {elt tg iter : Expr} {ifs : List Expr} {scope : Scope} {own : List (Str × Nat)} {pos : Pos} {wi : TI} {g : TG} {tt : TT} {te : TE} (hc : HotC X) (hN : X.N.Nodup) (hi : PIH X tg iter wi) (ok : BlkOk X.N X.env.scope scope own)
    (hg : ∀ (s : Shared) (H : Hp) (C : Addr) (cl : List (Str × Addr)) (fp : List Addr), PG (blkH X s H scope (compEnvC scope cl C X.env) fp) tg g) (ht : ∀ (s : Shared) (H : Hp) (C : Addr) (cl : List (Str × Addr)) (fp : List Addr), PTs (blkH X s H scope (compEnvC scope cl C X.env) fp) ifs tt)
    (he : ∀ (s : Shared) (H : Hp) (C : Addr) (cl : List (Str × Addr)) (fp : List Addr), PE (blkH X s H scope (compEnvC scope cl C X.env) fp) elt te) (hs : ∀ x, foldedSetIterable iter X.env x = pure x := by intro _; rfl) :
    PE X (.ListComp elt [⟨tg, iter, ifs, 0⟩] scope pos) (tLc wi g tt te (own.map (·.2))) := by
  refine ⟨fun pins s σ H Q I h => ?_⟩
  rw [eval_ListComp]
  refine lcH_core hc hN I hi ok hg ht he hs h fun D C s' m H' I' q hn f => ⟨m, hn, fun h'' sb => ?_⟩
  obtain ⟨f0, f1, f2, f3, f4, f5⟩ := f
  exact ⟨.ref D, H', I'.turned (t' := s'.toks) (fun b o hb e => (sb.2 b hb).trans e) f0 f1 f3 f4 f5, rfl, q⟩
end
/-- a def by its name, called there -/
structure FnT (P : Program) (w : World) (K : PySem.W.Frag) (mg : Str → Option Value) (base : Heap) (k : Nat) (x : Str) (sp : Sp) : Prop where
  run : ∃ f fd ps, mg x = some (.ref f) ∧ PySem.W.keepIn K (.ref f) = true ∧ FnH P w K mg base CX0 k f fd ps sp ∧ Binds K fd ps []
section
variable {X : Cx} {k : Nat} {sp : Sp} {x : Str} {p pos : Pos} {e : Expr} {es : List Expr} {t : TA}
theorem pe_fnT (F : FnT X.prog X.w X.K X.mg X.base k x sp) (hr : RoomH k X.A) (hc : HotC X) (ha : PA X (e :: es) t) (hg : Gl X x := by rfl) (hdb : (x == ("__debug__" : Str)) = false := by decide)
    (he : starEach (e :: es) X.env = (false, eval e X.env) :: starEach es X.env := by rfl) (hpl : (backTo pos (starEach es X.env)).any (·.1) = false := by rfl) :
    PE X (.Call (.Name x p) (e :: es) [] pos) (tR sp t) := by
  obtain ⟨f, fd, ps, hm, hk, F, hb⟩ := F.run
  exact pe_callH (E := fun _ => E0) F hr hc hg hm hk hb (fun _ _ _ _ _ _ _ z => z.elim) ha hdb he hpl
end
/-- how a def of the text keeps a promise there -/
theorem fnT_def {P : Program} {w : World} {K : PySem.W.Frag} {mg : Str → Option Value} {base : Heap} {x : Str} {params : Arguments} {body : List Stmt} {scope : Scope} {f : Addr} {fd : FuncData} {N ps : List Str} {k : Nat} {sp : Sp}
    (F : FunD K x x params body scope [] [] f fd) (hm : mg x = some (.ref f)) (S : FnScope N ps scope) (len : ∀ vs H Q E, sp vs H Q E → vs.length = ps.length)
    (hb : ∀ (kV doc pm : Value) (an : Option Addr) (cdv ct : Value) (us : List Value), us.length = ps.length → bindArgs (PySem.W.fnOf x x params body scope .none kV doc pm an cdv ct) ⟨us, []⟩ = pure (ps.zip us))
    (hbody : ∀ (cdv : Value) (A : Around) (outer : List Env) (s : Shared) (H : Hp) (vs : List V) (Q : VK) (E : XK) (p : Addr × Obj), Hot1 A p → RoomH k (A.deeper (envOfC x scope s.heap.objs.size f cdv)) → sp vs H Q E →
      ∃ t, PSs (cxH CX0 P w K mg base N x scope f cdv A outer s H E p) body t ∧ t ⟨fun _ H' => Q .non H', Q, fun _ _ => False, fun _ _ => False⟩ (start N vs) H) : FnT P w K mg base (k + 1) x sp := by
  have b := F.bindsN hb
  have kp := F.kp
  obtain ⟨oc, od, dV, kV, doc, pm, an, cdv, ct, osl, rfl, lk, hcd, hD, _⟩ := F.ex
  rcases hD with ⟨_, rfl⟩ | ⟨e, _⟩
  · exact ⟨f, _, ps, hm, kp, fn_ofH lk hcd S len fun A outer s H vs Q E p hot hr h => hbody cdv A outer s H vs Q E p hot hr h, b⟩
  · exact absurd rfl e
section
variable {σ : L2.St} {H : Hp} {K : PySem.W.Frag}
theorem r_iZip2 {ta : TA} {R : It → Hp → Prop} (h : ta σ H fun vs H1 => ∃ (k1 k2 : Bool) (a b : Addr) (xs ys : List V), vs = [.ref a, .ref b] ∧ SqB K k1 H1 a xs ∧ SqB K k2 H1 b ys ∧ R (ItZ2 K k1 k2 a b) H1) : iZip2 K ta σ H R := h
/-- a comprehension over two of one length -/
theorem r_lcZ2 {k1 k2 : Bool} {a b : Addr} {xs ys : List V} {g : TG} {tt : TT} {te : TE} {vs : List Nat} {D : Addr} {Qd : Hp → Prop} (hl : xs.length = ys.length) (Pv : Nat → Hp → Prop) (h0 : Pv 0 (upd H D (.lst []))) (hq : ∀ i H, Pv i H → SqB K k1 H a xs ∧ SqB K k2 H b ys)
    (hs : ∀ (i : Nat) (x y : V) (T : Addr) (H : Hp), xs[i]? = some x → ys[i]? = some y → Pv i H → H T = none → g (.ref T) (wipe σ vs) (upd H T (.tup [x, y])) fun σ2 H2 => wipe σ2 vs = wipe σ vs ∧ tt σ2 H2 fun b H3 =>
      if b = true then te σ2 H3 fun y H4 => ∃ acc, H4 D = some (.lst acc) ∧ acc.length < sizeLine ∧ Pv (i + 1) (upd H4 D (.lst (acc ++ [y]))) else Pv (i + 1) H3) (hd : ∀ H, Pv xs.length H → Qd H) :
    ∃ W : Nat → Nat → Hp → Prop, (∃ m, W 0 m (upd H D (.lst []))) ∧ ∀ i m H, W i m H →
      ((ItZ2 K k1 k2 a b).stop i H ∧ Qd H) ∨ ((ItZ2 K k1 k2 a b).go i H ∧ ∃ Nx : Hp → Prop, (∀ H', Nx H' → ∃ m', m' < m ∧ W (i + 1) m' H') ∧ ∀ x H', (ItZ2 K k1 k2 a b).yld i H x H' → g x (wipe σ vs) H' fun σ2 H2 => wipe σ2 vs = wipe σ vs ∧ tt σ2 H2 fun b H3 =>
        if b = true then te σ2 H3 fun y H4 => ∃ acc, H4 D = some (.lst acc) ∧ acc.length < sizeLine ∧ Nx (upd H4 D (.lst (acc ++ [y]))) else Nx H3) := by
  refine ⟨fun i m H => m = xs.length - i ∧ i ≤ xs.length ∧ Pv i H, ⟨xs.length, rfl, Nat.zero_le _, h0⟩, ?_⟩
  rintro i m H ⟨rfl, hi, p⟩
  obtain ⟨qx, qy⟩ := hq i H p
  by_cases hlt : i < xs.length
  · have hx : xs[i]? = some xs[i] := List.getElem?_eq_getElem hlt
    have hlt2 : i < ys.length := by omega
    have hy : ys[i]? = some ys[i] := List.getElem?_eq_getElem hlt2
    refine .inr ⟨⟨xs, ys, _, _, qx, qy, hx, hy⟩, Pv (i + 1), fun H' p' => ⟨xs.length - (i + 1), by omega, rfl, hlt, p'⟩, fun v H' y => ?_⟩
    obtain ⟨T, x', y', rfl, hT, rfl, f1, f2⟩ := y
    exact hs i x' y' T _ (f1 xs qx) (f2 ys qy) p hT
  · have e : i = xs.length := by omega
    subst e
    exact .inl ⟨⟨xs, ys, qx, qy, rfl, hl.symm⟩, hd H p⟩
end
end Yk

set_option maxHeartbeats 1000000
/-! Errors of the text's own classes with fields: raised, caught, their fields and classes asked. -/
namespace Yk
open PySem PySem.Spec PyProof.Rows L2 L2H
/-- the class of errors at C: as a value, for making, fields and isinstance -/
structure Xc (K : PySem.W.Frag) (mg : Str → Option Value) (x : Str) (C : Addr) : Prop where
  hm : mg x = some (.ref C)
  oe : OexC K C
  xf : XfC K C
  cl : (PySem.W.clsIn K C).isSome = true
  ha : PySem.W.findIn K (.ref C) "__class__" = some (some (.builtin "object.__class__"))
  hn : PySem.W.specialIn K (.builtin "object.__class__") "__get__" = some (some (.builtin "getset_descriptor.__get__"))
  ht : PySem.W.takesIn K (.builtin "object.__class__") = some true
  ho : PySem.W.mroIn K C (.type "object") = some true
/-- its __init__ -/
structure Xi (P : Program) (w : World) (K : PySem.W.Frag) (mg : Str → Option Value) (base : Heap) (k : Nat) (x : Str) (C : Addr) (sp : Sp) : Prop where
  run : ∃ fI fd ps, mg x = some (.ref C) ∧ OexC K C ∧ PySem.W.findIn K (.ref C) "__init__" = some (some (.ref fI)) ∧ PySem.W.typeIn K (.ref fI) = some (.type "function") ∧ FnOk P w K mg base CX0 k fI fd ps sp ∧ Binds K fd ps []
/-- self.f = v, and no more -/
def spInit1 (C : Addr) (f : Str) : Sp := fun vs H Q _ => ∃ (a : Addr) (v : V), vs = [.ref a, v] ∧ H a = some (exo a C none) ∧ ∀ d, H d = none → d ≠ a → Q .non (upd (upd H d (exd d [(f, v)])) a (exo a C (some d)))
section
variable {X : Cx} {k : Nat} {C : Addr} {sp : Sp} {x m f : Str} {o e : Expr} {es : List Expr} {pos p pos2 apos : Pos} {te ta : TE} {t : TA} {W : WX} {pl : Sem Bool}
theorem mkN_oex {R : List V → Hp → XK → Prop} (Fi : Xi X.prog X.w X.K X.mg X.base k x C sp) (hr : Room (k + 1) X.A) (hg : Gl X x) (ha : PA X (e :: es) t) (hdb : (x == ("__debug__" : Str)) = false)
    (he : starEach (e :: es) X.env = (false, eval e X.env) :: starEach es X.env) (hpl : (backTo pos (starEach es X.env)).any (·.1) = false)
    (hR : ∀ vs H1 Q, R vs H1 Q → vs.length ≤ 1000 ∧ ∀ a, H1 a = none → sp (.ref a :: vs) (upd H1 a (exo a C none)) (fun v H2 => v = .non ∧ ∃ (d : Addr) (fs : List (Str × V)), H2 a = some (exo a C (some d)) ∧ H2 d = some (exd d fs) ∧ H1 d = none ∧ Q (.ref C) (some d) (upd (del H2 a) d (.xd fs))) E0) :
    L2N.PMk X (.Call (.Name x p) (e :: es) [] pos) (fun σ H Q => t σ H fun vs H1 => R vs H1 Q) := by
  obtain ⟨fI, fd, ps, hm, T, iC, tI, F1, hb⟩ := Fi.run
  intro pins s σ H Q I h
  obtain ⟨nm, q, N, bs, bm, sn, sub, ab, col, dd, k0, k1, k2, k3, k5, hC, hbm⟩ := T.cls
  refine wpAny_Call_Name_kw (ld_glob I hg hm (PySem.W.callWith_K (h₀ := X.base) I.ok.mod.kin T.kC (thn (ha.run pos pins s σ H _ I h) fun us s1 ⟨vs, H1, I1, r1, hz⟩ => ⟨I1.kIn, ?_⟩) he hpl) hdb)
  obtain ⟨hz, q1⟩ := hR _ _ _ hz
  show wpAny _ _ (call (.ref C) us) _ _ _
  obtain ⟨hp, g, dr, tk, os⟩ := s1
  have hsz : hp.objs.size ≤ hp.objs.size + 1 := Nat.le_succ _
  have hq := q1 (hp.objs.size + 1) (I1.hok.fresh hsz)
  have kk : ∀ b o, hp.get? b = some o → ((hp.push (PySem.W.kdv_tup us)).push (PySem.HandSPX.excO C hp.objs.size)).get? b = some o := fun b o e => Heap.get?_push_of_some _ (Heap.get?_push_of_some _ e)
  have hget : ((hp.push (PySem.W.kdv_tup us)).push (PySem.HandSPX.excO C hp.objs.size)).get? (hp.objs.size + 1) = some (PySem.HandSPX.excO C hp.objs.size) := by heap_get
  have I2 : Inv X pins σ (upd H1 (hp.objs.size + 1) (exo (hp.objs.size + 1) C none)) ⟨(hp.push (PySem.W.kdv_tup us)).push (PySem.HandSPX.excO C hp.objs.size), g, dr, tk, os⟩ :=
    I1.laid (t' := tk) (a := hp.objs.size + 1) (o := exo (hp.objs.size + 1) C none) (h' := (hp.push (PySem.W.kdv_tup us)).push (PySem.HandSPX.excO C hp.objs.size)) kk hsz (exo_ok hget)
  have r2 : Vals (V.ref (hp.objs.size + 1) :: vs) (Value.ref (hp.objs.size + 1) :: us) := .cons rfl r1
  have hl : (Value.ref (hp.objs.size + 1) :: us).length = ps.length := by
    have e := r2.length
    rw [F1.len _ _ _ _ hq] at e
    exact e.symm
  have hus : us.length ≤ sizeLine := by
    rw [← Paired.length r1, sizeLine_eq]
    omega
  have b := hb _ (Value.ref (hp.objs.size + 1) :: us) I2.kIn (by rw [List.append_nil]; exact hl)
  rw [List.append_nil] at b
  refine wpAny_call (PySem.HandSPX.call_own PySem.F.excBase_ValueError (fun Y => PySem.HandSPX.refsVE_contains Y bm hbm) (I1.kIn _ _ hC) (PySem.W.looks_findIn I1.kIn iC) (fun self => PySem.W.bind_fn I1.kIn self tI) hus
    (codeAny_mono (F1.run _ X.stack _ _ ⟨Value.ref (hp.objs.size + 1) :: us, []⟩ (Value.ref (hp.objs.size + 1) :: us) _ _ E0 (hr.make C us []) (I2.env0.make C us []) b r2 hq) fun r s' hq' => ?_))
  cases r with
  | error er => exact hq'.elim
  | ok fl =>
    cases fl with
    | ret u =>
      obtain ⟨v, H2, os2, bare2, un2, hok2, rv, ev, d, fs, ea, ed, hd1, q2⟩ := hq'
      subst ev
      obtain ⟨h2, g2, d2, t2, os'⟩ := s'
      obtain ⟨t0, G, J, kG, ge, hoe, na⟩ := mk_end0 (d2 := d2) (t2 := t2) I1 hsz kk un2 hok2 os2 bare2 ea ed hd1
      exact ⟨rv, _, _, _, ⟨G, g2, d2, t2, os'⟩, _, .ref C, some d, rfl, J, kG, ge, hoe, ⟨rfl, rfl, fun vs e => by cases e; rfl⟩, rfl, rfl, na, rfl, bare2, raises_own T.exC T.tyC, q2⟩
    | next => exact hq'.elim
    | brk => exact hq'.elim
    | cont => exact hq'.elim
/-- raise x(v), x an error with one field -/
def tRaise1 (C : Addr) (f : Str) (W : WX) (t : TA) : TS := fun _ σ H => t σ H fun vs H1 => ∃ v, vs = [v] ∧ ∀ d, H1 d = none → W (.ref C) (some d) σ (upd H1 d (.xd [(f, v)]))
theorem ps_raise1 (F : Xi X.prog X.w X.K X.mg X.base k x C (spInit1 C f)) (hr : Room (k + 1) X.A) (hc : X.calm = true) (tk : L2N.Takes X W) (ha : PA X (e :: es) t) (hg : Gl X x := by rfl) (hdb : (x == ("__debug__" : Str)) = false := by decide)
    (he : starEach (e :: es) X.env = (false, eval e X.env) :: starEach es X.env := by rfl) (hpl : (backTo pos (starEach es X.env)).any (·.1) = false := by rfl) :
    PS X (.Raise (some (.Call (.Name x p) (e :: es) [] pos)) none pos2) (tRaise1 C f W t) := by
  refine L2N.ps_raise (pos := pos2) hc tk (mkN_oex (pos := pos) (p := p) (R := fun vs H1 Q => ∃ v, vs = [v] ∧ ∀ d, H1 d = none → Q (.ref C) (some d) (upd H1 d (.xd [(f, v)]))) F hr hg ha hdb he hpl fun vs H1 Q q => ?_)
  obtain ⟨v, rfl, q⟩ := q
  refine ⟨by show 1 ≤ 1000; decide, fun a ha1 => ⟨a, v, rfl, upd_same, fun d hd hda => ⟨rfl, d, [(f, v)], upd_same, by rw [upd_ne hda, upd_same], by rw [upd_ne hda] at hd; exact hd, ?_⟩⟩⟩
  have hd1 : H1 d = none := by rw [upd_ne hda] at hd; exact hd
  have e0 : upd (del (upd (upd (upd H1 a (exo a C none)) d (exd d [(f, v)])) a (exo a C (some d))) a) d (.xd [(f, v)]) = upd H1 d (.xd [(f, v)]) := by
    funext b
    by_cases h1 : b = d
    · rw [h1, upd_same, upd_same]
    · rw [upd_ne h1, upd_ne h1]
      by_cases h2 : b = a
      · rw [h2, del_same, ha1]
      · rw [del_ne h2, upd_ne h2, upd_ne h1, upd_ne h2]
  rw [e0]
  exact q d hd1
end
/-! a method that may raise; try; what the suite asks -/
structure MtX (P : Program) (w : World) (K : PySem.W.Frag) (mg : Str → Option Value) (base : Heap) (k : Nat) (C : Addr) (m : Str) (sp : Sp) : Prop where
  run : ∃ f fd ps, Cls K C ∧ Meth K C m f ∧ FnOk P w K mg base (L2N.CX P w) k f fd ps sp ∧ Binds K fd ps []
section
variable {X : Cx} {k : Nat} {C D a : Addr} {sp : Sp} {x m f n : Str} {o e : Expr} {es : List Expr} {pos p pos2 apos : Pos} {te ta : TE} {t : TA} {W Wout : WX} {pl : Sem Bool} {i : Nat} {oe : Obj} {cls : Value} {d : Option Addr} {pn : List (Addr × Obj)} {tb : WX → TS} {ts : Addr → Value → Option Addr → TS}
def tMtX (C : Addr) (m : Str) (sp : Sp) (W : WX) (te : TE) (t : TA) : TE := fun σ H Q => te σ H fun x H1 => ∃ a dx fs, x = .ref a ∧ H1 a = some (.ins C dx fs) ∧ fs.lookup m = none ∧ t σ H1 fun vs H2 => sp (x :: vs) H2 Q fun cls d H3 => W cls d σ H3
theorem pe_mtX (F : MtX X.prog X.w X.K X.mg X.base k C m sp) (hr : Room k X.A) (tk : L2N.Takes X W) (he : PE X o te) (ha : PA X (e :: es) t)
    (hst : starEach (e :: es) X.env = (false, eval e X.env) :: starEach es X.env := by rfl) (hpl : (backTo pos (starEach es X.env)).any (·.1) = false := by rfl)
    (ht : eval (.Call (.Attribute o m apos) (e :: es) [] pos) X.env = (do
      let ov ← eval o X.env
      standAt apos.atName
      let (f, first) ← holding [ov] (getMethod ov m pl)
      callWith pos f first (backTo pos (starEach (e :: es) X.env)) (backToKw pos (keywordEach [] X.env))) := by rfl) :
    PE X (.Call (.Attribute o m apos) (e :: es) [] pos) (tMtX C m sp W te t) := by
  obtain ⟨f, fd, ps, c, hm, F, hb⟩ := F.run
  refine ⟨fun pins s σ H Q I h => ?_⟩
  refine PySem.W.methodCall_KW (pl := pl) (thn (he.run pins s σ H _ I h) fun u s1 ⟨x, H1, I1, rx, a, dx, fs, ex, ea, l, q⟩ => ?_) ht
  subst ex
  obtain rfl : u = Value.ref a := rx
  refine getmeth_ok I1 ea c hm l (PySem.W.callWith_K (first := [.ref a]) (h₀ := X.base) I.ok.mod.kin hm.kp (thn (ha.run pos pins s1 σ H1 _ I1 q) fun us s2 ⟨vs, H2, I2, r, q2⟩ => ⟨I2.kIn, ?_⟩) hst hpl)
  exact run_fnS (E := WE W) (us := .ref a :: us) (vs := .ref a :: vs) F hr hb (L2N.passAt tk σ) I2 (.cons rfl r) q2
theorem takesN0 : L2N.Takes X (fun _ _ _ _ => False) := fun _ _ ⟨_, _, _, _, _, _, _, _, _, _, _, _, _, _, _, _, z⟩ => z.elim
/-- the suite of an except clause bears the error -/
theorem hot_suite (hz : L2N.Zn cls d oe) (hf : ∃ vs, oe.data = .fields vs) : HotC (X.suite a ((a, oe) :: pn)) := by
  obtain ⟨vs, hv⟩ := hf
  exact ⟨(a, oe), ⟨rfl, vs, hv, hz.2.2 vs hv⟩, List.mem_cons_self⟩
/-- isinstance of the caught error, its class D, its dict told -/
def rIsX (K : PySem.W.Frag) (D a : Addr) (cls : Value) (d : Option Addr) : List V → Hp → VK → Prop := fun xs H Q => ∃ (c : V) (cv : Value) (b : Bool) (dd : Addr) (fs : List (Str × V)), xs = [.ref a, c] ∧ (∀ u, RelV c u → u = cv) ∧ PySem.W.kitOne K (.ref D) cv = some b ∧ cls = .ref D ∧ d = some dd ∧ H dd = some (.xd fs) ∧ Q (.bl b) H
theorem call_isX (Y : Xc X.K X.mg x D) (hz : L2N.Zn cls d oe) (hf : ∃ vs, oe.data = .fields vs) : CallR (X.suite a ((a, oe) :: pn)) (.builtin "isinstance") (rIsX X.K D a cls d) := by
  intro pins s σ H xs us Q I r h
  obtain ⟨c, cv, b, dd, fs, rfl, hcv, e, rfl, rfl, hd, q⟩ := h
  cases r with
  | cons rx rr =>
    cases rr with
    | cons rt rr =>
      cases rr
      cases rx
      have ec := hcv _ rt
      subst ec
      obtain ⟨hget, _⟩ := I.pin (a, oe) (List.mem_append.mpr (.inl List.mem_cons_self))
      obtain ⟨vs, hv⟩ := hf
      have hx : ObjOk X.prog X.w H s.heap dd (.xd fs) := I.hok dd _ hd
      obtain ⟨mA, hns, _⟩ := hx
      obtain ⟨od, ho, _⟩ := lookIn_ns hns
      have J : PySem.W.InstAt s.heap a oe D (some od) := ⟨hget, hz.1, by unfold PySem.W.notCls; rw [hv] <;> rfl, by rw [hz.2.1]; exact ho⟩
      exact PySem.W.kia_one (PySem.W.kitx_exc Y.cl Y.xf.ga Y.xf.gg Y.xf.exC Y.ha Y.hn Y.ht Y.ho) I.kIn J e (fun z => nomatch z) fun tk => ⟨.bl b, H, I.kept (t' := tk) fun _ _ z => z, rfl, q⟩
end
section
variable {K : PySem.W.Frag} {σ : L2.St} {H : Hp} {Q : VK} {nx : L2.St → Hp → Prop} {rt : VK} {bk ct : L2.St → Hp → Prop} {C : Addr} {sp : Sp} {m f : Str} {W Wout : WX} {te : TE} {t : TA} {i : Nat} {ts : Addr → Value → Option Addr → TS} {c cls : Value} {d : Option Addr}
theorem r_raise1 {D : Ends} (h : t σ H fun vs H1 => ∃ v, vs = [v] ∧ ∀ d, H1 d = none → W (.ref C) (some d) σ (upd H1 d (.xd [(f, v)]))) : tRaise1 C f W t D σ H := h
theorem r_tMtX (h : te σ H fun x H1 => ∃ a dx fs, x = .ref a ∧ H1 a = some (.ins C dx fs) ∧ fs.lookup m = none ∧ t σ H1 fun vs H2 => sp (x :: vs) H2 Q fun cls d H3 => W cls d σ H3) : tMtX C m sp W te t σ H Q := h
/-- the clause names what is raised -/
theorem r_caught (e : PySem.W.exmOne K cls c = some true) (h : ∀ a, H a = none → ts a cls d ⟨fun σ' H' => nx (σ'.set i none) H', rt, fun σ' H' => bk (σ'.set i none) H', fun σ' H' => ct (σ'.set i none) H'⟩ (σ.set i (some (.ref a))) H) : wAs K c i ts Wout ⟨nx, rt, bk, ct⟩ cls d σ H :=
  ⟨true, e, fun _ => h, fun z => Bool.noConfusion z⟩
theorem r_xf {a C : Addr} {R : V → Prop} {dd : Addr} {fs : List (Str × V)} {v : V} (h1 : cls = .ref C) (h2 : d = some dd) (h3 : H dd = some (.xd fs)) (h4 : fs.lookup f = some v) (h : R v) : V.ref a = .ref a ∧ cls = .ref C ∧ ∃ (dd : Addr) (fs : List (Str × V)) (v : V), d = some dd ∧ H dd = some (.xd fs) ∧ fs.lookup f = some v ∧ R v := ⟨rfl, h1, dd, fs, v, h2, h3, h4, h⟩
theorem r_tXf {a C : Addr} (h : te σ H fun x H1 => x = .ref a ∧ cls = .ref C ∧ ∃ (dd : Addr) (fs : List (Str × V)) (v : V), d = some dd ∧ H1 dd = some (.xd fs) ∧ fs.lookup f = some v ∧ Q v H1) : tXf a cls d C f te σ H Q := h
end
/-- a method that may raise keeps its promise -/
theorem ok_methX {P : Program} {w : World} {K : PySem.W.Frag} {mg : Str → Option Value} {base : Heap} {f : Addr} {fd : FuncData} {x qual : Str} {params : Arguments} {body : List Stmt} {scope : Scope} {dvs : List V} {kws : List (Str × V)} {N ps : List Str} {k : Nat} {sp : Sp}
    (F : FunD K x qual params body scope dvs kws f fd) (S : FnScope N ps scope) (len : ∀ vs H Q E, sp vs H Q E → vs.length = ps.length)
    (hbody : ∀ (cdv : Value) (A : Around) (outer : List Env) (s : Shared) (H : Hp) (vs : List V) (Q : VK) (E : XK), Room k (A.deeper (envOfC qual scope s.heap.objs.size f cdv)) → sp vs H Q E →
      ∃ t, PSs (cxOf (L2N.CX P w) P w K mg base N qual scope f cdv A outer s H E) body t ∧ t ⟨fun _ H' => Q .non H', Q, fun _ _ => False, fun _ _ => False⟩ (start N vs) H) : FnOk P w K mg base (L2N.CX P w) (k + 1) f fd ps sp :=
  F.ok S len fun cdv A outer s H vs Q E hr h => hbody cdv A outer s H vs Q E hr h
end Yk

set_option maxHeartbeats 1000000
/-! What a head says of the text's own classes of errors. -/
namespace Xh
open PySem PySem.W PySem.Spec PyProof.Rows L2 He Yk
def oexB (K : Frag) (C : Addr) : Bool := match K.lookup C with
  | some ⟨.type "type", _, .cls cd, sl⟩ => (match cd.mro, sl.toList with
    | .ref C' :: bm, [_, _, _, _, some (.builtin n), _] => C' == C && (n == "ValueError.__new__" && (!cd.hasDel && (cd.hasDict && HandSPX.refsVE bm)))
    | _, _ => false)
  | _ => false
theorem oexB_ok {K : Frag} {C : Addr} (h : oexB K C = true) : ∃ nm q N bs bm sn sub ab col dd k0 k1 k2 k3 k5, K.lookup C = some (excClassObj nm q C N bs bm true sn sub ab col dd k0 k1 k2 k3 k5 "ValueError.__new__") ∧ HandSPX.refsVE bm = true := by
  unfold oexB at h
  split at h
  · rename_i dd cd sl ho
    split at h
    · rename_i C' bm k0 k1 k2 k3 n k5 hm hs
      simp only [Bool.and_eq_true, beq_iff_eq, Bool.not_eq_true'] at h
      obtain ⟨rfl, rfl, hdel, hdict, ht⟩ := h
      obtain ⟨nm, bs, mro, ns, qn, hd, sn, sub, ab, col, del⟩ := cd
      dsimp only at hm hdel hdict
      subst hm hdel hdict
      have hsl : sl = #[k0, k1, k2, k3, some (.builtin "ValueError.__new__"), k5] := by
        obtain ⟨l⟩ := sl
        simp only at hs
        rw [hs]
      subst hsl
      exact ⟨nm, qn, ns, bs, bm, sn, sub, ab, col, dd, k0, k1, k2, k3, k5, ho, ht⟩
    · cases h
  · cases h
def xcB (K : Frag) (x : Str) : Bool := oexB K (ga K x) && (eqO (findIn K (.ref (ga K x)) "__setattr__") (some (some (.builtin "object.__setattr__"))) && (decide (subIn K (.ref (ga K x)) (.type "BaseException") = some true) && (decide (typeIn K (.ref (ga K x)) = some (.type "type")) && (keepIn K (.ref (ga K x)) && (xfB K (ga K x) &&
  ((clsIn K (ga K x)).isSome && (eqO (findIn K (.ref (ga K x)) "__class__") (some (some (.builtin "object.__class__"))) && (eqO (specialIn K (.builtin "object.__class__") "__get__") (some (some (.builtin "getset_descriptor.__get__"))) && (decide (takesIn K (.builtin "object.__class__") = some true) && decide (mroIn K (ga K x) (.type "object") = some true))))))))))
theorem xcB_ok {K : Frag} {mg : Str → Option Value} {x : Str} (h : xcB K x = true) (hm : mg x = some (.ref (ga K x))) : Xc K mg x (ga K x) := by
  unfold xcB at h
  simp only [Bool.and_eq_true] at h
  obtain ⟨h1, h2, h3, h4, h5, h6, h7, h8, h9, h10, h11⟩ := h
  exact ⟨hm, ⟨oexB_ok h1, eqO_ok h2, of_decide_eq_true h3, of_decide_eq_true h4, h5⟩, xfB_ok h6, h7, eqO_ok h8, eqO_ok h9, of_decide_eq_true h10, of_decide_eq_true h11⟩
def xiB (K : Frag) (x : Str) : Bool := eqO (findIn K (.ref (ga K x)) "__init__") (some (some (.ref (ma K (ga K x) "__init__")))) && decide (typeIn K (.ref (ma K (ga K x) "__init__")) = some (.type "function"))
theorem xi_of {P : Program} {w : World} {K : Frag} {mg : Str → Option Value} {base : Heap} {k : Nat} {x : Str} {fd : FuncData} {ps : List Str} {sp : Sp} (Y : Xc K mg x (ga K x)) (h : xiB K x = true) (O : FnOk P w K mg base CX0 k (ma K (ga K x) "__init__") fd ps sp) (b : Binds K fd ps []) : Xi P w K mg base k x (ga K x) sp := by
  obtain ⟨h1, h2⟩ := Bool.and_eq_true_iff.mp h
  exact ⟨_, fd, ps, Y.hm, Y.oe, eqO_ok h1, of_decide_eq_true h2, O, b⟩
end Xh
namespace Yk
open PySem PySem.Spec PyProof.Rows L2 L2H
theorem fnT_none {P : Program} {w : World} {K : PySem.W.Frag} {mg : Str → Option Value} {base : Heap} {x : Str} {params : Arguments} {body : List Stmt} {scope : Scope} {f : Addr} {fd : FuncData} {ps : List Str} {sp : Sp} (F : FunD K x x params body scope [] [] f fd) (hm : mg x = some (.ref f))
    (hb : ∀ (kV doc pm : Value) (an : Option Addr) (cdv ct : Value) (us : List Value), us.length = ps.length → bindArgs (PySem.W.fnOf x x params body scope .none kV doc pm an cdv ct) ⟨us, []⟩ = pure (ps.zip us)) (no : ∀ vs H Q E, ¬ sp vs H Q E) : FnT P w K mg base 0 x sp :=
  ⟨f, fd, ps, hm, F.kp, ⟨fun vs H Q E h => absurd h (no _ _ _ _), fun A outer s H args us vs Q E p _ _ _ _ _ _ h => absurd h (no _ _ _ _)⟩, F.bindsN hb⟩
end Yk

set_option maxHeartbeats 0
namespace YkHead
open PySem PySem.Spec PyProof.Rows L2 Yk
def dD (x : Str) (i : Nat) : Hk.DefP := ⟨fun K => He.ga K x, x, x, defArgs (top i), defBody (top i), defScope (top i), [], []⟩
def fn0 : List Hk.DefP := [dD "is_number" 2, dD "number_text" 3, dD "read_number" 4, ⟨fun K => He.ga K "amount", "amount", "amount", defArgs (top 15), defBody (top 15), defScope (top 15), [.int 1], []⟩, dD "is_amount" 16, dD "is_small" 17, dD "plus" 18, dD "minus" 19, dD "_added" 20, dD "times" 21, dD "over" 22, dD "_product" 23, dD "compare" 24, dD "smallest" 25, dD "largest" 26, dD "amount_text" 27, dD "read_amount" 28, dD "_law_bag" 30, dD "_law_draw" 31, dD "_law_of" 32]
def fn1 : List Hk.DefP := [dD "_law_like" 33, dD "_law_pair" 34, dD "_law_more" 35, dD "_law_add" 36, dD "_law_sub" 37, dD "_law_mul" 38, dD "_law_div" 39, dD "_law_min" 40, dD "_law_max" 41, dD "_law_sum" 42, dD "_law_show" 43, dD "_law_is_amount" 44, dD "_law_is_small" 45, dD "_law_great" 46, dD "_law_amount" 47, dD "_law_odd" 48, dD "_law_told" 49, dD "_law_digits" 50, dD "_law_read" 51, dD "_law_bent" 52]
def fn2 : List Hk.DefP := [dD "_law_count" 53, dD "_law_made_so" 54, dD "_law_two_so" 55, dD "_law_more_so" 56, dD "_law_text_so" 57, dD "_law_kinds_so" 58, dD "law" 59, ⟨fun K => He.ma K (He.ga K "BadAmount") "__init__", "__init__", "BadAmount.__init__", defArgs (inClass (top 7) 0), defBody (inClass (top 7) 0), defScope (inClass (top 7) 0), [], []⟩, ⟨fun K => He.ma K (He.ga K "Short") "__init__", "__init__", "Short.__init__", defArgs (inClass (top 8) 0), defBody (inClass (top 8) 0), defScope (inClass (top 8) 0), [], []⟩]
def fn : List Hk.DefP := fn0 ++ fn1 ++ fn2
def fa0 : List He.Fa := [.glo "BadAmount", .glo "Short", .glo "BandError", .glo "is_number", .glo "number_text", .glo "read_number", .glo "amount", .glo "is_amount", .glo "is_small", .glo "plus", .glo "minus", .glo "_added", .glo "times", .glo "over", .glo "_product", .glo "compare", .glo "smallest", .glo "largest", .glo "amount_text", .glo "read_amount"]
def fa1 : List He.Fa := [.glo "_law_bag", .glo "_law_draw", .glo "_law_of", .glo "_law_like", .glo "_law_pair", .glo "_law_more", .glo "_law_add", .glo "_law_sub", .glo "_law_mul", .glo "_law_div", .glo "_law_min", .glo "_law_max", .glo "_law_sum", .glo "_law_show", .glo "_law_is_amount", .glo "_law_is_small", .glo "_law_great", .glo "_law_amount", .glo "_law_odd", .glo "_law_told"]
def fa2 : List He.Fa := [.glo "_law_digits", .glo "_law_read", .glo "_law_bent", .glo "_law_count", .glo "_law_made_so", .glo "_law_two_so", .glo "_law_more_so", .glo "_law_text_so", .glo "_law_kinds_so", .glo "law", .free "ValueError", .free "all", .free "any", .free "bool", .free "divmod", .free "int", .free "isinstance", .free "len", .free "list", .free "max"]
def fa3 : List He.Fa := [.free "min", .free "range", .free "str", .free "sum", .free "tuple", .free "zip", .int "TEXT_DIGITS" 400, .int "SMALL_BOTTOM" 12]
def fa : List He.Fa := fa0 ++ fa1 ++ fa2 ++ fa3
def ex (K : PySem.W.Frag) : Bool := Xh.xcB K "BadAmount" && Xh.xiB K "BadAmount" && He.eqO (PySem.W.findIn K (.ref (He.ga K "BadAmount")) "value") (some none) && Xh.xcB K "Short" && Xh.xiB K "Short" && He.eqO (PySem.W.findIn K (.ref (He.ga K "Short")) "amount") (some none) && decide (PySem.W.exmOne K (.ref (He.ga K "BadAmount")) (.ref (He.ga K "BandError")) = some true) && decide (PySem.W.exmOne K (.ref (He.ga K "Short")) (.ref (He.ga K "BandError")) = some true) && decide (PySem.W.kitOne K (.ref (He.ga K "BadAmount")) (.ref (He.ga K "BadAmount")) = some true) && decide (PySem.W.kitOne K (.ref (He.ga K "Short")) (.ref (He.ga K "BadAmount")) = some false) && decide (PySem.W.kitOne K (.ref (He.ga K "Short")) (.ref (He.ga K "Short")) = some true) && !decide ((He.cT K ("_law_made_so", none)).2 = (He.cT K ("_law_two_so", none)).2) && He.eqO (PySem.W.nsIn K mainGlobals "gcd") (some (some (.builtin "math.gcd"))) && He.eqO (PySem.W.nsIn K mainGlobals "ZERO") (some (some (.ref (He.ga K "ZERO")))) && He.tupB K "ZERO" [.int 0, .int 1] && He.eqO (PySem.W.nsIn K mainGlobals "ONE") (some (some (.ref (He.ga K "ONE")))) && He.tupB K "ONE" [.int 1, .int 1] && He.eqO (PySem.W.nsIn K mainGlobals "TOP") (some (some (.ref (He.ga K "TOP")))) && He.tupB K "TOP" [.int 1000, .int 1]
abbrev R : PySem.W.OpenRow := PySem.W.OpenLaw.row PySem.Challenge.rw_bandheld_k00_amounts_reckoned
def as_0 : List Addr := [3, 6, 4, 49, 56, 63, 73, 93, 112, 115, 116, 117, 125, 132, 139, 146, 153, 160, 167, 174, 181, 188, 195, 202, 209, 216, 223, 230, 237, 242, 249, 256, 263, 270, 277, 284, 291, 298, 305, 312]
def as_1 : List Addr := [317, 324, 331, 338, 345, 352, 357, 362, 369, 376, 383, 390, 397, 404, 409, 416, 0, 48, 55, 62, 72, 92, 111, 124, 118, 131, 138, 145, 152, 159, 166, 173, 180, 187, 194, 201, 208, 215, 222, 229]
def as_2 : List Addr := [236, 241, 248, 255, 262, 269, 276, 283, 290, 297, 304, 311, 316, 323, 330, 337, 344, 351, 356, 361, 368, 375, 382, 389, 396, 403, 408, 415, 43, 44, 45, 46, 47, 50, 51, 52, 53, 54, 57, 58]
def as_3 : List Addr := [59, 60, 61, 71, 74, 90, 91, 109, 110, 119, 120, 121, 122, 123, 126, 127, 128, 129, 130, 133, 134, 135, 136, 137, 140, 141, 142, 143, 144, 147, 148, 149, 150, 151, 154, 155, 156, 157, 158, 161]
def as_4 : List Addr := [162, 163, 164, 165, 168, 169, 170, 171, 172, 175, 176, 177, 178, 179, 182, 183, 184, 185, 186, 189, 190, 191, 192, 193, 196, 197, 198, 199, 200, 203, 204, 205, 206, 207, 210, 211, 212, 213, 214, 217]
def as_5 : List Addr := [218, 219, 220, 221, 224, 225, 226, 227, 228, 231, 232, 233, 234, 235, 238, 239, 240, 243, 244, 245, 246, 247, 250, 251, 252, 253, 254, 257, 258, 259, 260, 261, 264, 265, 266, 267, 268, 271, 272, 273]
def as_6 : List Addr := [274, 275, 278, 279, 280, 281, 282, 285, 286, 287, 288, 289, 292, 293, 294, 295, 296, 299, 300, 301, 302, 303, 306, 307, 308, 309, 310, 313, 314, 315, 318, 319, 320, 321, 322, 325, 326, 327, 328, 329]
def as_7 : List Addr := [332, 333, 334, 335, 336, 339, 340, 341, 342, 343, 346, 347, 348, 349, 350, 353, 354, 355, 358, 359, 360, 363, 364, 365, 366, 367, 370, 371, 372, 373, 374, 377, 378, 379, 380, 381, 384, 385, 386, 387]
def as_8 : List Addr := [388, 391, 392, 393, 394, 395, 398, 399, 400, 401, 402, 405, 406, 407, 410, 411, 412, 413, 414, 89, 108, 84, 85, 86, 87, 88, 103, 104, 105, 106, 107, 2]
def as_ : List Addr := as_0 ++ as_1 ++ as_2 ++ as_3 ++ as_4 ++ as_5 ++ as_6 ++ as_7 ++ as_8
def tf : List He.Defn := [("_law_made_so", none), ("_law_two_so", none)]
noncomputable abbrev hk : PySem.W.Hook := Hk.hookT as_ fa fn tf ex
def ob (s : PySem.W.SharedT) : Hk.Al × Bool := Hk.obGT as_ fa fn tf ex (HandSHeadRun.getT s)
theorem ob_eq (s : PySem.W.SharedT) : ob s = hk.obs s.abs := Hk.obGT_eq (HandSHeadRun.getT_eq s)
def loose0 : List Str := ["is_number", "number_text", "read_number", "amount", "is_amount", "is_small", "plus", "minus", "_added", "times", "over", "_product", "compare", "smallest", "largest", "amount_text", "read_amount", "_law_bag", "_law_draw", "_law_of"]
def loose1 : List Str := ["_law_like", "_law_pair", "_law_more", "_law_add", "_law_sub", "_law_mul", "_law_div", "_law_min", "_law_max", "_law_sum", "_law_show", "_law_is_amount", "_law_is_small", "_law_great", "_law_amount", "_law_odd", "_law_told", "_law_digits", "_law_read", "_law_bent"]
def loose2 : List Str := ["_law_count", "_law_made_so", "_law_two_so", "_law_more_so", "_law_text_so", "_law_kinds_so", "BandError", "BadAmount", "Short", "ZERO", "ONE", "TOP", "SMALL_BOTTOM", "TEXT_DIGITS"]
def loose : List Str := loose0 ++ loose1 ++ loose2
abbrev vw : Program := PySem.W.view R.prog [0, 59]
theorem run (w : World) : HandSHeadRun.RunEqI R vw hk ob 8000 loose w := by
  unfold HandSHeadRun.RunEqI
  kernel_rfl
end YkHead

set_option maxHeartbeats 1000000
/-! Texts of numbers. -/
namespace Yk
open PySem PySem.Spec PyProof.Rows L2 TL
/-- the text of a number -/
def nt (n : Nat) : Str := Str.ofString (toString ((n : Nat) : Int))
theorem tl_nt (n : Nat) : tl (nt n) = numL n := tl_num n
theorem cps_nt (n : Nat) : (nt n).cps.toList = numL n := tl_nt n
theorem str_eq {a b : Str} (h : tl a = tl b) : a = b := Str.ext' (Array.toList_inj.mp h)
theorem len_nt (n : Nat) : (nt n).length = (numL n).length := by rw [← tl_nt]; exact (Array.length_toList).symm
theorem numL_le {n k : Nat} (hk : 0 < k) (h : n < 10 ^ k) : (numL n).length ≤ k := by
  unfold numL
  rw [List.length_map]
  exact (Nat.length_toDigits_le_iff (by decide) hk).mpr h
theorem numL_ne (n : Nat) : numL n ≠ [] := by
  unfold numL
  intro e
  have h := List.map_eq_nil_iff.mp e
  have h2 : 0 < (Nat.toDigits 10 n).length := by
    by_cases hn : n < 10
    · rw [Nat.toDigits_of_lt_base hn]; simp
    · rw [Nat.toDigits_of_base_le (by decide) (by omega)]; simp
  rw [h] at h2
  exact absurd h2 (by decide)
theorem numL_snoc {n d : Nat} (hn : 0 < n) (hd : d < 10) : numL (n * 10 + d) = numL n ++ numL d := by
  unfold numL
  rw [← List.map_append, Nat.toDigits_append_toDigits (by decide) hn hd, Nat.mul_comm]
theorem numL_digit {d : Nat} (hd : d < 10) : numL d = [48 + d] := numL_lt hd
/-- filled up with noughts -/
def padL (k n : Nat) : List Nat := List.replicate (k - (numL n).length) 48 ++ numL n
theorem numL_split : ∀ (k : Nat) (q r : Nat), 0 < q → r < 10 ^ (k + 1) → numL (q * 10 ^ (k + 1) + r) = numL q ++ padL (k + 1) r
  | 0, q, r, hq, hr => by
    have hr' : r < 10 := by simpa using hr
    unfold padL
    rw [numL_digit hr', show 10 ^ (0 + 1) = 10 from rfl, numL_snoc hq hr', numL_digit hr']
    rfl
  | k + 1, q, r, hq, hr => by
    have h1 : r / 10 < 10 ^ (k + 1) := Nat.div_lt_of_lt_mul (by rw [Nat.pow_succ] at hr; omega)
    have hd : r % 10 < 10 := Nat.mod_lt _ (by decide)
    have e : q * 10 ^ (k + 1 + 1) + r = (q * 10 ^ (k + 1) + r / 10) * 10 + r % 10 := by
      rw [Nat.pow_succ 10 (k + 1), ← Nat.mul_assoc, Nat.add_mul, Nat.add_assoc, Nat.div_add_mod' r 10]
    have hp : 0 < q * 10 ^ (k + 1) + r / 10 := by
      have : 0 < q * 10 ^ (k + 1) := Nat.mul_pos hq (Nat.pow_pos (by decide))
      omega
    rw [e, numL_snoc hp hd, numL_split k q (r / 10) hq h1, List.append_assoc]
    congr 1
    unfold padL
    by_cases hz : r / 10 = 0
    · have er : r = r % 10 := by omega
      rw [hz, numL_digit (show 0 < 10 by decide), numL_digit hd]
      have e2 : numL r = [48 + r % 10] := by rw [er]; simpa using numL_digit hd
      rw [e2]
      have h3 : List.replicate (k + 1 - [48 + 0].length) 48 ++ [48 + 0] = List.replicate (k + 1) 48 := by
        show List.replicate (k + 1 - 1) 48 ++ [48] = _
        rw [show k + 1 - 1 = k by omega, ← List.replicate_succ']
      rw [h3]
      show List.replicate (k + 1) 48 ++ _ = List.replicate (k + 1 + 1 - 1) 48 ++ _
      rw [show k + 1 + 1 - 1 = k + 1 by omega]
    · have e2 : numL r = numL (r / 10) ++ numL (r % 10) := by
        rw [← numL_snoc (by omega) hd, Nat.div_add_mod' r 10]
      rw [e2, List.length_append, numL_digit hd, List.append_assoc]
      rw [show k + 1 + 1 - ((numL (r / 10)).length + [48 + r % 10].length) = k + 1 - (numL (r / 10)).length by show k + 1 + 1 - (_ + 1) = _; omega]
theorem numL_range {n c : Nat} (h : c ∈ numL n) : 48 ≤ c ∧ c ≤ 57 := by
  unfold numL at h
  obtain ⟨ch, hch, e⟩ := List.mem_map.mp h
  have r := digit_range (Nat.isDigit_of_mem_toDigits (by decide) (by decide) hch)
  rw [← e]
  exact r
theorem zfill_tl {n k : Nat} (h : (numL n).length ≤ k) : tl (Txt.zfill (nt n) (k : Int)) = padL k n := by
  unfold Txt.zfill
  rw [len_nt]
  split
  · rename_i hk
    have e : (numL n).length = k := by omega
    unfold padL
    rw [e, Nat.sub_self, tl_nt]
    rfl
  · unfold zfilled
    have hc : ∀ c, (nt n).cps[0]? = some c → c ≠ 43 ∧ c ≠ 45 := by
      intro c hc
      have h1 : c ∈ numL n := by
        rw [← tl_nt]
        rw [← Array.getElem?_toList] at hc
        exact List.mem_of_getElem? hc
      have := numL_range h1
      omega
    have hp : tl (Builtin.Str.padded (nt n) (Int.toNat (k : Int) - (numL n).length) 0 48) = padL k n := by
      unfold Builtin.Str.padded padL
      show (Array.replicate (k - (numL n).length) 48 ++ (nt n).cps ++ Array.replicate 0 48).toList = _
      rw [Array.toList_append, Array.toList_append, cps_nt]
      simp
    split
    · rename_i e
      exact absurd rfl (hc _ e).1
    · rename_i e
      exact absurd rfl (hc _ e).2
    · exact hp
theorem read_nt {n : Nat} (h : (nt n).length ≤ 4300) : PySem.intText? (nt n) = some (n : Int) := by
  have hd : PySem.NumText.AllDigits (nt n).cps.toList := by
    intro c hc
    rw [cps_nt] at hc
    exact numL_range hc
  have hne : (nt n).cps.toList ≠ [] := by
    rw [cps_nt]
    exact numL_ne n
  have e := PySem.intText_digits hd hne h
  rw [cps_nt] at e
  rw [e]
  unfold numL
  rw [PySem.W.KIN.val_back]
theorem ascii_nt (n : Nat) : Txt.isascii (nt n) = true := by
  unfold Txt.isascii
  rw [← Array.all_toList, List.all_eq_true]
  intro c hc
  rw [cps_nt] at hc
  have := numL_range hc
  exact decide_eq_true (by omega)
theorem uni_digit : ∀ d : Nat, d < 10 → Unicode.isDigit (48 + d) = true := by decide +kernel
theorem digit_nt (n : Nat) : Txt.isdigit (nt n) = true := by
  unfold Txt.isdigit
  rw [Bool.and_eq_true]
  refine ⟨decide_eq_true ?_, ?_⟩
  · rw [len_nt]
    exact List.length_pos_iff.mpr (numL_ne n)
  · rw [← Array.all_toList, List.all_eq_true]
    intro c hc
    rw [cps_nt] at hc
    have h := numL_range hc
    have := uni_digit (c - 48) (by omega)
    rw [show 48 + (c - 48) = c by omega] at this
    exact this
theorem numL_head : ∀ n : Nat, 0 < n → ∃ c r, numL n = c :: r ∧ c ≠ 48 := by
  intro n
  induction n using Nat.strongRecOn with
  | _ n ih =>
    intro hn
    by_cases h : n < 10
    · exact ⟨48 + n, [], numL_digit h, by omega⟩
    · obtain ⟨c, r, e, hc⟩ := ih (n / 10) (by omega) (by omega)
      refine ⟨c, r ++ numL (n % 10), ?_, hc⟩
      have h2 := numL_snoc (n := n / 10) (d := n % 10) (by omega) (Nat.mod_lt _ (by decide))
      rw [show n / 10 * 10 + n % 10 = n by omega, e] at h2
      exact h2
theorem nt_zero : nt 0 = Str.ofString "0" := by decide +kernel
theorem starts_nt {n : Nat} (hn : 0 < n) : Txt.startswith (nt n) (Str.ofString "0") = false := by
  unfold Txt.startswith
  obtain ⟨c, r, e, hc⟩ := numL_head n hn
  rw [Bool.and_eq_false_iff]
  right
  unfold Builtin.Str.subAt
  rw [show (Str.ofString "0") = ⟨#[48]⟩ by decide +kernel]
  rw [beq_eq_false_iff_ne]
  intro z
  have z2 := congrArg Array.toList z
  rw [Array.toList_extract] at z2
  rw [cps_nt, e] at z2
  simp at z2
  have z3 : List.take 1 (c :: r) = [48] := z2
  simp at z3
  exact hc z3
/-- the text of an amount -/
def amTxt (q : Rat) : Str := if q.den = 1 then nt q.num.toNat else nt q.num.toNat ++ Str.ofString "/" ++ nt q.den
theorem slash_nt (n : Nat) : 47 ∉ tl (nt n) := fun h => by rw [tl_nt] at h; have := numL_range h; omega
theorem slash : Str.ofString "/" = ⟨#[47]⟩ := by decide +kernel
theorem part_nt (n : Nat) : Txt.partition (nt n) (Str.ofString "/") = (nt n, Str.empty, Str.empty) := partition_none (y := Str.ofString "/") (s := 47) (S := []) (by rw [slash]) (slash_nt n)
theorem part_am (n d : Nat) : Txt.partition (nt n ++ Str.ofString "/" ++ nt d) (Str.ofString "/") = (nt n, Str.ofString "/", nt d) := partition_app (y := Str.ofString "/") (s := 47) (S := []) (by rw [slash]) (slash_nt n)
theorem joinL_nil : ∀ l : List (List Nat), joinL [] l = l.flatten
  | [] => rfl
  | [p] => by simp [joinL]
  | p :: q :: r => by
    show p ++ ([] ++ joinL [] (q :: r)) = _
    rw [joinL_nil (q :: r)]
    simp
theorem tl_join0 (parts : List Str) : tl (Txt.join Str.empty parts) = (parts.map tl).flatten := by
  rw [join_eq, tl_join]
  exact joinL_nil _
theorem len_sum : ∀ parts : List Str, (parts.map (·.length)).sum = (parts.map tl).flatten.length
  | [] => rfl
  | p :: r => by
    show p.length + (r.map (·.length)).sum = (tl p ++ (r.map tl).flatten).length
    rw [List.length_append, len_sum r]
    congr 1
theorem bits_lt {n b : Nat} (h : n < 2 ^ b) : n < 10 ^ b := Nat.lt_of_lt_of_le h (Nat.pow_le_pow_left (by decide) b)
theorem log_lt {n b : Nat} (hb : 0 < b) (h : n < 2 ^ b) : n.log2 < b := PySem.Flt.log2_lt_of hb h
end Yk

set_option maxHeartbeats 1000000
namespace Yk
open PySem PySem.Spec PyProof.Rows L2

section
variable {P : Program} {w : World} {K : PySem.W.Frag} {mg : Str → Option Value} {base : Heap} {f : Addr} {fd : FuncData}
abbrev s_added : Stmt := top 20
theorem c_added : FnScope ["first", "second", "top", "bottom", "other_top", "other_bottom", "common", "rest", "new_top", "shared"] ["first", "second"] (defScope s_added) := ⟨rfl, rfl, rfl, by decide +kernel, rfl, by decide +kernel, by decide +kernel⟩
theorem f_added (F : FunD K "_added" "_added" (defArgs s_added) (defBody s_added) (defScope s_added) [] [] f fd) (hm : mg "_added" = some (.ref f)) (T : Bg mg) : Fn P w K mg base 1 "_added" (spAdded K) := by
  refine fn_def F hm c_added (fun vs H Q E h => ?_) (fun _ _ _ _ _ _ us hl => match us, hl with | [_, _], _ => rfl) (fun cdv A outer s H vs Q E hr h => ?_)
  · obtain ⟨v1, v2, p, q, rfl, _⟩ := h
    rfl
  · obtain ⟨v1, v2, p, q, rfl, ⟨a1, rfl, h1⟩, ⟨a2, rfl, h2⟩, z1, z2, k⟩ := h
    have nd := c_added.nd
    refine ⟨_, (pss_cons (ps_asg (pv 0) (pg_tup rfl (pgs_cons (pg_name (i := 2) nd rfl (by first | exact Or.inl rfl | exact Or.inr rfl)) (pgs_cons (pg_name (i := 3) nd rfl (by first | exact Or.inl rfl | exact Or.inr rfl)) pgs_nil))))
      (pss_cons (ps_asg (pv 1) (pg_tup rfl (pgs_cons (pg_name (i := 4) nd rfl (by first | exact Or.inl rfl | exact Or.inr rfl)) (pgs_cons (pg_name (i := 5) nd rfl (by first | exact Or.inl rfl | exact Or.inr rfl)) pgs_nil))))
      (pss_cons (ps_set (i := 6) nd rfl (by first | exact Or.inl rfl | exact Or.inr rfl) (pe_callBfun cr_gcd (by rfl) T.gcd (pa_cons (pv 3) (pa_cons (pv 5) pa_nil))))
      (pss_cons (ps_set (i := 7) nd rfl (by first | exact Or.inl rfl | exact Or.inr rfl) (pe_op op_fdivW (pv 3) (pv 6)))
      (pss_cons (ps_set (i := 8) nd rfl (by first | exact Or.inl rfl | exact Or.inr rfl) (pe_op op_add (pe_op op_mulW (pv 2) (pe_op op_fdivW (pv 5) (pv 6))) (pe_op op_mulW (pv 4) (pv 7))))
      (pss_cons (ps_set (i := 9) nd rfl (by first | exact Or.inl rfl | exact Or.inr rfl) (pe_callBfun cr_gcd (by rfl) T.gcd (pa_cons (pv 8) (pa_cons (pv 6) pa_nil))))
      (pss_one (ps_ret (pe_tup (pa_cons (pe_op op_fdivW (pv 8) (pv 9)) (pa_cons (pe_op op_mulW (pv 7) (pe_op op_fdivW (pv 5) (pv 9))) pa_nil))))))))))), ?_⟩
    show (_ : TS) _ [some _, some _, none, none, none, none, none, none, none, none] _
    try dsimp only [cxOf, Cx.nox]
    have g0 : 0 < Nat.gcd p.den q.den := Nat.gcd_pos_of_pos_left _ p.den_pos
    have gl : Nat.gcd p.den q.den < 2 ^ 4000 := Nat.lt_of_le_of_lt (Nat.gcd_le_left _ p.den_pos) z1.2
    have e1 : (p.den : Int).natAbs < 2 ^ 4000 := z1.2
    have e2 : (q.den : Int).natAbs < 2 ^ 4000 := z2.2
    have d1 : ∀ i : Int, CDivW i ((Nat.gcd p.den q.den : Nat) : Int) := fun i => cdiv g0 gl (by decide) (by decide)
    have m1 : CMulW p.num ((q.den : Int) / ((Nat.gcd p.den q.den : Nat) : Int)) := cmul z1.1 (dlt e2) (by decide) (by decide) (by decide)
    have m2 : CMulW q.num ((p.den : Int) / ((Nat.gcd p.den q.den : Nat) : Int)) := cmul z2.1 (dlt e1) (by decide) (by decide) (by decide)
    have s0 : ∀ n : Nat, 0 < Nat.gcd n (Nat.gcd p.den q.den) := fun n => Nat.gcd_pos_of_pos_right _ g0
    have sl : ∀ n : Nat, Nat.gcd n (Nat.gcd p.den q.den) < 2 ^ 4000 := fun n => Nat.lt_of_le_of_lt (Nat.gcd_le_right _ g0) gl
    have d2 : ∀ (i : Int) (n : Nat), CDivW i ((Nat.gcd n (Nat.gcd p.den q.den) : Nat) : Int) := fun i n => cdiv (s0 n) (sl n) (by decide) (by decide)
    have m3 : ∀ n : Nat, CMulW ((p.den : Int) / ((Nat.gcd p.den q.den : Nat) : Int)) ((q.den : Int) / ((Nat.gcd n (Nat.gcd p.den q.den) : Nat) : Int)) := fun n => cmul (dlt e1) (dlt e2) (by decide) (by decide) (by decide)
    walk_at "go"
    refine r_I (d1 _) ?_
    walk_at "go"
    refine r_I (d1 _) ?_
    walk_at "go"
    refine r_I (d2 _ _) ?_
    walk_at "go"
    refine r_I (d2 _ _) ?_
    walk_at "go"
    refine r_I (m3 _) ?_
    walk_at "go"
    refine k _ _ (Ext.refl.new (by assumption)) ⟨_, rfl, ?_⟩
    obtain ⟨x1, x2⟩ := add_int p q
    rw [x1, x2]
    exact tupS
end
end Yk

set_option maxHeartbeats 1000000
namespace Yk
open PySem PySem.Spec PyProof.Rows L2

section
variable {P : Program} {w : World} {K : PySem.W.Frag} {mg : Str → Option Value} {base : Heap} {f : Addr} {fd : FuncData}
def spProd (K : PySem.W.Frag) : Sp := fun vs H Q _ => ∃ p q : Rat, vs = [.int p.num, .int (p.den : Int), .int q.num, .int (q.den : Int)] ∧ Sz 4000 p ∧ Sz 4000 q ∧ RetAm K H Q (p * q)
abbrev s_product : Stmt := top 23
theorem c_product : FnScope ["top", "bottom", "other_top", "other_bottom", "left", "right"] ["top", "bottom", "other_top", "other_bottom"] (defScope s_product) := ⟨rfl, rfl, rfl, by decide +kernel, rfl, by decide +kernel, by decide +kernel⟩
theorem f_product (F : FunD K "_product" "_product" (defArgs s_product) (defBody s_product) (defScope s_product) [] [] f fd) (hm : mg "_product" = some (.ref f)) (T : Bg mg) : Fn P w K mg base 1 "_product" (spProd K) := by
  refine fn_def F hm c_product (fun vs H Q E h => ?_) (fun _ _ _ _ _ _ us hl => match us, hl with | [_, _, _, _], _ => rfl) (fun cdv A outer s H vs Q E hr h => ?_)
  · obtain ⟨p, q, rfl, _⟩ := h
    rfl
  · obtain ⟨p, q, rfl, z1, z2, k⟩ := h
    have nd := c_product.nd
    refine ⟨_, (pss_cons (ps_set (i := 4) nd rfl (by first | exact Or.inl rfl | exact Or.inr rfl) (pe_callBfun cr_gcd (by rfl) T.gcd (pa_cons (pv 0) (pa_cons (pv 3) pa_nil))))
      (pss_cons (ps_set (i := 5) nd rfl (by first | exact Or.inl rfl | exact Or.inr rfl) (pe_callBfun cr_gcd (by rfl) T.gcd (pa_cons (pv 2) (pa_cons (pv 1) pa_nil))))
      (pss_one (ps_ret (pe_tup (pa_cons (pe_op op_mulW (pe_op op_fdivW (pv 0) (pv 4)) (pe_op op_fdivW (pv 2) (pv 5))) (pa_cons (pe_op op_mulW (pe_op op_fdivW (pv 1) (pv 5)) (pe_op op_fdivW (pv 3) (pv 4))) pa_nil))))))), ?_⟩
    show (_ : TS) _ [some _, some _, some _, some _, none, none] _
    try dsimp only [cxOf, Cx.nox]
    have g1 : 0 < Nat.gcd p.num.natAbs q.den := Nat.gcd_pos_of_pos_right _ q.den_pos
    have g2 : 0 < Nat.gcd q.num.natAbs p.den := Nat.gcd_pos_of_pos_right _ p.den_pos
    have l1 : Nat.gcd p.num.natAbs q.den < 2 ^ 4000 := Nat.lt_of_le_of_lt (Nat.gcd_le_right _ q.den_pos) z2.2
    have l2 : Nat.gcd q.num.natAbs p.den < 2 ^ 4000 := Nat.lt_of_le_of_lt (Nat.gcd_le_right _ p.den_pos) z1.2
    have e1 : (p.den : Int).natAbs < 2 ^ 4000 := z1.2
    have e2 : (q.den : Int).natAbs < 2 ^ 4000 := z2.2
    have d1 : ∀ i : Int, CDivW i ((Nat.gcd p.num.natAbs q.den : Nat) : Int) := fun i => cdiv g1 l1 (by decide) (by decide)
    have d2 : ∀ i : Int, CDivW i ((Nat.gcd q.num.natAbs p.den : Nat) : Int) := fun i => cdiv g2 l2 (by decide) (by decide)
    have m1 : CMulW (p.num / ((Nat.gcd p.num.natAbs q.den : Nat) : Int)) (q.num / ((Nat.gcd q.num.natAbs p.den : Nat) : Int)) := cmul (dlt z1.1) (dlt z2.1) (by decide) (by decide) (by decide)
    have m2 : CMulW ((p.den : Int) / ((Nat.gcd q.num.natAbs p.den : Nat) : Int)) ((q.den : Int) / ((Nat.gcd p.num.natAbs q.den : Nat) : Int)) := cmul (dlt e1) (dlt e2) (by decide) (by decide) (by decide)
    walk_at "go"
    refine r_I (d1 _) ?_
    walk_at "go"
    refine r_I (d2 _) ?_
    walk_at "go"
    refine r_I (d2 _) ?_
    walk_at "go"
    refine r_I (d1 _) ?_
    walk_at "go"
    refine k _ _ (Ext.refl.new (by assumption)) ⟨_, rfl, ?_⟩
    obtain ⟨x1, x2⟩ := mul_int' p q
    rw [x1, x2]
    exact tupS
def spTimes (K : PySem.W.Frag) : Sp := fun vs H Q _ => ∃ v1 v2 p q, vs = [v1, v2] ∧ Am K H v1 p ∧ Am K H v2 q ∧ Sz 4000 p ∧ Sz 4000 q ∧ RetAm K H Q (p * q)
abbrev s_times : Stmt := top 21
theorem c_times : FnScope ["first", "second"] ["first", "second"] (defScope s_times) := ⟨rfl, rfl, rfl, by decide +kernel, rfl, by decide +kernel, by decide +kernel⟩
theorem f_times (F : FunD K "times" "times" (defArgs s_times) (defBody s_times) (defScope s_times) [] [] f fd) (hm : mg "times" = some (.ref f)) (F_product : Fn P w K mg base 1 "_product" (spProd K)) : FnOk P w K mg base CX0 2 f fd ["first", "second"] (spTimes K) := by
  refine ok_def F c_times (fun vs H Q E h => ?_) (fun cdv A outer s H vs Q E hr h => ?_)
  · obtain ⟨v1, v2, p, q, rfl, _⟩ := h
    rfl
  · obtain ⟨v1, v2, p, q, rfl, ⟨a1, rfl, h1⟩, ⟨a2, rfl, h2⟩, z1, z2, k⟩ := h
    have nd := c_times.nd
    refine ⟨_, (pss_one (ps_ret (pe_fn F_product (hr.mono (by decide)) (pa_cons (pe_ix ix_tup (pv 0) pe_int (fun _ _ => rfl)) (pa_cons (pe_ix ix_tup (pv 0) pe_int (fun _ _ => rfl)) (pa_cons (pe_ix ix_tup (pv 1) pe_int (fun _ _ => rfl)) (pa_cons (pe_ix ix_tup (pv 1) pe_int (fun _ _ => rfl)) pa_nil))))))), ?_⟩
    show (_ : TS) _ [some _, some _] _
    try dsimp only [cxOf, Cx.nox]
    walk_at "go"
    exact ⟨p, q, rfl, z1, z2, k⟩
def spOver (K : PySem.W.Frag) : Sp := fun vs H Q _ => ∃ v1 v2 p q, vs = [v1, v2] ∧ Am K H v1 p ∧ Am K H v2 q ∧ 0 < q ∧ Sz 4000 p ∧ Sz 4000 q ∧ RetAm K H Q (p / q)
def cmpQ (p q : Rat) : Int := if p < q then -1 else if q < p then 1 else 0
def spCompare (K : PySem.W.Frag) : Sp := fun vs H Q _ => ∃ v1 v2 p q, vs = [v1, v2] ∧ Am K H v1 p ∧ Am K H v2 q ∧ Sz 4000 p ∧ Sz 4000 q ∧ Q (.int (cmpQ p q)) H
abbrev s_compare : Stmt := top 24
theorem c_compare : FnScope ["first", "second", "left", "right"] ["first", "second"] (defScope s_compare) := ⟨rfl, rfl, rfl, by decide +kernel, rfl, by decide +kernel, by decide +kernel⟩
theorem f_compare (F : FunD K "compare" "compare" (defArgs s_compare) (defBody s_compare) (defScope s_compare) [] [] f fd) (hm : mg "compare" = some (.ref f))  : FnOk P w K mg base CX0 1 f fd ["first", "second"] (spCompare K) := by
  refine ok_def F c_compare (fun vs H Q E h => ?_) (fun cdv A outer s H vs Q E hr h => ?_)
  · obtain ⟨v1, v2, p, q, rfl, _⟩ := h
    rfl
  · obtain ⟨v1, v2, p, q, rfl, ⟨a1, rfl, h1⟩, ⟨a2, rfl, h2⟩, z1, z2, k⟩ := h
    have nd := c_compare.nd
    refine ⟨_, (pss_cons (ps_set (i := 2) nd rfl (by first | exact Or.inl rfl | exact Or.inr rfl) (pe_op op_mulW (pe_ix ix_tup (pv 0) pe_int (fun _ _ => rfl)) (pe_ix ix_tup (pv 1) pe_int (fun _ _ => rfl))))
      (pss_cons (ps_set (i := 3) nd rfl (by first | exact Or.inl rfl | exact Or.inr rfl) (pe_op op_mulW (pe_ix ix_tup (pv 1) pe_int (fun _ _ => rfl)) (pe_ix ix_tup (pv 0) pe_int (fun _ _ => rfl))))
      (pss_cons (ps_if (pt_cmpR op_lt (pv 2) (pv 3) (nomark _))
        (pss_one (ps_ret (pe_un un_neg pe_int)))
        pss_nil)
      (pss_cons (ps_if (pt_cmpR op_gt (pv 2) (pv 3) (nomark _))
        (pss_one (ps_ret pe_int))
        pss_nil)
      (pss_one (ps_ret pe_int)))))), ?_⟩
    show (_ : TS) _ [some _, some _, none, none] _
    try dsimp only [cxOf, Cx.nox]
    have e1 : (p.den : Int).natAbs < 2 ^ 4000 := z1.2
    have e2 : (q.den : Int).natAbs < 2 ^ 4000 := z2.2
    have m1 : CMulW p.num (q.den : Int) := cmul z1.1 e2 (by decide) (by decide) (by decide)
    have m2 : CMulW q.num (p.den : Int) := cmul z2.1 e1 (by decide) (by decide) (by decide)
    walk_at "go"
    refine r_dec (fun hlt => ?_) (fun hlt => ?_)
    · walk_at "go"
      unfold cmpQ at k
      rw [if_pos ((Rat.lt_iff p q).mpr hlt)] at k
      exact k
    · walk_at "go"
      have n1 : ¬ p < q := fun z => hlt ((Rat.lt_iff p q).mp z)
      refine r_dec (fun hgt => ?_) (fun hgt => ?_)
      · walk_at "go"
        unfold cmpQ at k
        rw [if_neg n1, if_pos ((Rat.lt_iff q p).mpr hgt)] at k
        exact k
      · walk_at "go"
        have n2 : ¬ q < p := fun z => hgt ((Rat.lt_iff q p).mp z)
        unfold cmpQ at k
        rw [if_neg n1, if_neg n2] at k
        exact k
def spMinus (K : PySem.W.Frag) : Sp := fun vs H Q _ => ∃ v1 v2 p q, vs = [v1, v2] ∧ Am K H v1 p ∧ Am K H v2 q ∧ q ≤ p ∧ Sz 4000 p ∧ Sz 4000 q ∧ RetAm K H Q (p - q)
abbrev s_minus : Stmt := top 19
theorem c_minus : FnScope ["first", "second"] ["first", "second"] (defScope s_minus) := ⟨rfl, rfl, rfl, by decide +kernel, rfl, by decide +kernel, by decide +kernel⟩
theorem f_minus (F : FunD K "minus" "minus" (defArgs s_minus) (defBody s_minus) (defScope s_minus) [] [] f fd) (hm : mg "minus" = some (.ref f)) (Fcompare : Fn P w K mg base 1 "compare" (spCompare K)) (F_added : Fn P w K mg base 1 "_added" (spAdded K)) : Fn P w K mg base 2 "minus" (spMinus K) := by
  refine fn_def F hm c_minus (fun vs H Q E h => ?_) (fun _ _ _ _ _ _ us hl => match us, hl with | [_, _], _ => rfl) (fun cdv A outer s H vs Q E hr h => ?_)
  · obtain ⟨v1, v2, p, q, rfl, _⟩ := h
    rfl
  · obtain ⟨v1, v2, p, q, rfl, ⟨a1, rfl, h1⟩, ⟨a2, rfl, h2⟩, hle, z1, z2, k⟩ := h
    have nd := c_minus.nd
    refine ⟨_, (pss_cons (ps_if (pt_cmpR op_lt (pe_fn Fcompare (hr.mono (by decide)) (pa_cons (pv 0) (pa_cons (pv 1) pa_nil))) pe_int (nomark _))
        (pss_one ps_never)
        pss_nil)
      (pss_one (ps_ret (pe_fn F_added (hr.mono (by decide)) (pa_cons (pv 0) (pa_cons (pe_tup (pa_cons (pe_un un_neg (pe_ix ix_tup (pv 1) pe_int (fun _ _ => rfl))) (pa_cons (pe_ix ix_tup (pv 1) pe_int (fun _ _ => rfl)) pa_nil))) pa_nil)))))), ?_⟩
    show (_ : TS) _ [some _, some _] _
    try dsimp only [cxOf, Cx.nox]
    walk_at "go"
    refine ⟨_, _, p, q, rfl, ⟨_, rfl, h1⟩, ⟨_, rfl, h2⟩, z1, z2, ?_⟩
    walk_at "go"
    have n1 : ¬ cmpQ p q < 0 := by
      unfold cmpQ
      rw [if_neg (Rat.not_lt.mpr hle)]
      split <;> omega
    refine r_dec (fun hlt => absurd hlt n1) (fun _ => ?_)
    walk_at "go"
    refine ⟨_, _, p, -q, rfl, ⟨_, rfl, tupN h1 (by assumption)⟩, ⟨_, rfl, ?_⟩, z1, sz_neg z2, fun v H' e a => ?_⟩
    · rw [Rat.neg_num]
      exact tupS
    · refine k v H' ((Ext.refl.new (by assumption)).trans e) ?_
      rw [Rat.sub_eq_add_neg]
      exact a
abbrev s_over : Stmt := top 22
theorem c_over : FnScope ["first", "second"] ["first", "second"] (defScope s_over) := ⟨rfl, rfl, rfl, by decide +kernel, rfl, by decide +kernel, by decide +kernel⟩
theorem f_over (F : FunD K "over" "over" (defArgs s_over) (defBody s_over) (defScope s_over) [] [] f fd) (hm : mg "over" = some (.ref f)) (TZ : ∃ z, mg "ZERO" = some (.ref z) ∧ ∀ H, SqT K H z [.int 0, .int 1]) (F_product : Fn P w K mg base 1 "_product" (spProd K)) : Fn P w K mg base 2 "over" (spOver K) := by
  refine fn_def F hm c_over (fun vs H Q E h => ?_) (fun _ _ _ _ _ _ us hl => match us, hl with | [_, _], _ => rfl) (fun cdv A outer s H vs Q E hr h => ?_)
  · obtain ⟨v1, v2, p, q, rfl, _⟩ := h
    rfl
  · obtain ⟨v1, v2, p, q, rfl, ⟨a1, rfl, h1⟩, ⟨a2, rfl, h2⟩, hq, z1, z2, k⟩ := h
    have nd := c_over.nd
    obtain ⟨z, mz, TZ⟩ := TZ
    refine ⟨_, (pss_cons (ps_if (pt_cmpR (op_eqD hr.units) (pv 1) (pe_glob (v := .ref z) rfl mz rfl) (nomark _))
        (pss_one ps_never)
        pss_nil)
      (pss_one (ps_ret (pe_fn F_product (hr.mono (by decide)) (pa_cons (pe_ix ix_tup (pv 0) pe_int (fun _ _ => rfl)) (pa_cons (pe_ix ix_tup (pv 0) pe_int (fun _ _ => rfl)) (pa_cons (pe_ix ix_tup (pv 1) pe_int (fun _ _ => rfl)) (pa_cons (pe_ix ix_tup (pv 1) pe_int (fun _ _ => rfl)) pa_nil)))))))), ?_⟩
    show (_ : TS) _ [some _, some _] _
    try dsimp only [cxOf, Cx.nox]
    walk_at "go"
    refine ⟨_, _, .tup (h2) (.cons (.int _) (.cons (.int _) .nil)), .tup (TZ _) (.cons (.int _) (.cons (.int _) .nil)), rfl, rfl, ?_⟩
    walk_at "go"
    obtain ⟨i1, i2⟩ := inv_parts hq
    have hn : ¬ q.num = 0 := by have := num_pos' hq; omega
    have en : PyData.eqv (PyData.tuple [PyData.int q.num, PyData.int ↑q.den]) (PyData.tuple [PyData.int 0, PyData.int 1]) = false := by
      simp [PyData.eqv, PyData.eqvAll, hn]
    rw [en]
    refine iteF ?_
    walk_at "go"
    refine ⟨p, q⁻¹, ?_, z1, sz_inv z2 hq, fun v H' e a => k v H' e ?_⟩
    · rw [i1, i2]
    · rw [Rat.div_def]
      exact a
/-- the sum of a row, from the left -/
def sumQ (qs : List Rat) : Rat := qs.foldl (· + ·) 0
theorem sumQ_take {qs : List Rat} {i : Nat} {q : Rat} (h : qs[i]? = some q) : sumQ (qs.take (i + 1)) = sumQ (qs.take i) + q := by
  obtain ⟨hl, e⟩ := List.getElem?_eq_some_iff.mp h
  unfold sumQ
  rw [← List.take_append_getElem hl, List.foldl_append, e]
  rfl
theorem sumQ_sz {m : Nat} : ∀ {qs : List Rat} (i : Nat), (∀ q ∈ qs, Sz m q) → i ≤ qs.length → Sz (1 + i * (m + 1)) (sumQ (qs.take i))
  | qs, 0, _, _ => by
    rw [List.take_zero]
    refine ⟨Nat.two_pow_pos _, ?_⟩
    rw [Nat.zero_mul]
    decide
  | qs, i + 1, h, hi => by
    have hq : qs[i]? = some qs[i] := List.getElem?_eq_getElem hi
    rw [sumQ_take hq]
    have h1 := sumQ_sz i h (by omega)
    have h2 := h qs[i] (List.getElem_mem hi)
    refine (sz_add h1 h2).mono ?_
    rw [Nat.add_mul]
    omega
def spPlusT (K : PySem.W.Frag) : Sp := fun vs H Q _ => ∃ t xs qs m, vs = [V.ref t] ∧ SqT K H t xs ∧ Ams K H xs qs ∧ (∀ q ∈ qs, Sz m q) ∧ m ≤ 4000 ∧ 1 + qs.length * (m + 1) ≤ 4000 ∧ RetAm K H Q (sumQ qs)
def spPlus (K : PySem.W.Frag) : Sp := fun vs H Q _ => ∃ qs m, Ams K H vs qs ∧ (∀ q ∈ qs, Sz m q) ∧ m ≤ 4000 ∧ 1 + qs.length * (m + 1) ≤ 4000 ∧ RetAm K H Q (sumQ qs)
abbrev s_plus : Stmt := top 18
theorem c_plus : FnScope ["amounts", "found", "further"] ["amounts"] (defScope s_plus) := ⟨rfl, rfl, rfl, by decide +kernel, rfl, by decide +kernel, by decide +kernel⟩
theorem f_plus (F : FunD K "plus" "plus" (defArgs s_plus) (defBody s_plus) (defScope s_plus) [] [] f fd) (hm : mg "plus" = some (.ref f)) (TZ : ∃ z, mg "ZERO" = some (.ref z) ∧ ∀ H, SqT K H z [.int 0, .int 1]) (F_added : Fn P w K mg base 1 "_added" (spAdded K)) : Fn P w K mg base 2 "plus" (spPlus K) := by
  refine fn_star (ps := []) (pv := "amounts") (sp := spPlusT K) F hm c_plus (fun _ _ _ _ _ _ us rest hl => match us, rest, hl with | [], [], _ => rfl | [], _ :: _, _ => rfl) (fun cdv A outer s H vs Q E hr h => ?_) ?himp
  case himp =>
    exact fun vs H Q E ⟨qs, m, h1, h2, h3, h4, k⟩ => ⟨[], vs, rfl, rfl, Nat.le_trans (by rw [h1.1]; have := Nat.le_mul_of_pos_right qs.length (show 0 < m + 1 by omega); omega : vs.length ≤ 4000) (by decide), fun p hp => ⟨p, vs, qs, m, rfl, tupS, h1.x0 (Ext.refl.new hp), h2, h3, h4, fun v H' e a => k v H' ((Ext.refl.new hp).trans e) a⟩⟩
  · obtain ⟨t, xs, qs, m, rfl, ht, ha, hz, hm, hl, k⟩ := h
    have nd := c_plus.nd
    obtain ⟨z, mz, TZ⟩ := TZ
    refine ⟨_, (pss_cons (ps_set (i := 1) nd rfl (by first | exact Or.inl rfl | exact Or.inr rfl) (pe_glob (v := .ref z) rfl mz rfl))
      (pss_cons (ps_for PassesOwn.never rfl (pi_tup (pv 0)) (pg_name (i := 2) nd rfl (by first | exact Or.inl rfl | exact Or.inr rfl))
        (pss_one (ps_set (i := 1) nd rfl (by first | exact Or.inl rfl | exact Or.inr rfl) (pe_fn F_added (hr.mono (by decide)) (pa_cons (pv 1) (pa_cons (pv 2) pa_nil))))))
      (pss_one (ps_ret (pv 1))))), ?_⟩
    show (_ : TS) _ [some _, none, none] _
    try dsimp only [cxOf, Cx.nox]
    walk_at "go"
    refine r_forT rfl ht (fun i σ H1 => Ext [] H H1 ∧ ∃ fv u, σ = [some (.ref t), some fv, u] ∧ Am K H1 fv (sumQ (qs.take i))) ⟨Ext.refl, _, _, rfl, ⟨z, rfl, TZ _⟩⟩ (fun i σ H1 _ h => tup0 h.1 ht) ?_ ?_
    · rintro i x σ H1 hx ⟨e1, fv, u, rfl, hf⟩
      have hi : i < qs.length := by rw [← ha.1]; exact (List.getElem?_eq_some_iff.mp hx).1
      have hq : qs[i]? = some qs[i] := List.getElem?_eq_getElem hi
      have hb := sumQ_sz i hz (by omega)
      have hsz : 1 + i * (m + 1) ≤ 4000 := Nat.le_trans (by have := Nat.mul_le_mul_right (m + 1) (Nat.le_of_lt hi); omega) hl
      walk_at "go"
      refine ⟨_, _, _, qs[i], rfl, hf, (ha.2 i x _ hx hq).x0 e1, hb.mono hsz, (hz _ (List.getElem_mem hi)).mono hm, fun v H' e a => ?_⟩
      walk_at "go"
      refine ⟨e1.trans e, _, _, rfl, ?_⟩
      rw [sumQ_take hq]
      exact a
    · rintro σ H1 ⟨e1, fv, u, rfl, hf⟩
      walk_at "go"
      rw [ha.1, List.take_length] at hf
      exact k _ _ e1 hf
end
end Yk

set_option maxHeartbeats 1000000
namespace Yk
open PySem PySem.Spec PyProof.Rows L2

section
variable {P : Program} {w : World} {K : PySem.W.Frag} {mg : Str → Option Value} {base : Heap} {f : Addr} {fd : FuncData}
def spMinT (F : Rat → List Rat → Rat) (K : PySem.W.Frag) : Sp := fun vs H Q _ => ∃ v0 q0 t xs qs, vs = [v0, V.ref t] ∧ Am K H v0 q0 ∧ Sz 4000 q0 ∧ SqT K H t xs ∧ Ams K H xs qs ∧ (∀ q ∈ qs, Sz 4000 q) ∧ RetAm K H Q (F q0 qs)
def spMin (F : Rat → List Rat → Rat) (K : PySem.W.Frag) : Sp := fun vs H Q _ => ∃ q0 qs, Ams K H vs (q0 :: qs) ∧ (∀ q ∈ q0 :: qs, Sz 4000 q) ∧ qs.length ≤ 4000 ∧ RetAm K H Q (F q0 qs)
theorem spMin_imp {F : Rat → List Rat → Rat} : ∀ vs H Q E, spMin F K vs H Q E → ∃ ws rest, vs = ws ++ rest ∧ ws.length = (["first"] : List Str).length ∧ rest.length ≤ sizeLine ∧ ∀ p, H p = none → spMinT F K (ws ++ [V.ref p]) (upd H p (.tup rest)) Q E := by
  rintro vs H Q E ⟨q0, qs, h1, h2, h3, k⟩
  cases vs with
  | nil => exact absurd h1.1 (by simp)
  | cons v0 rest =>
    have hl : rest.length = qs.length := by simpa using h1.1
    have h4 : Ams K H rest qs := ⟨hl, fun i v q a b => h1.2 (i + 1) v q (by simpa using a) (by simpa using b)⟩
    refine ⟨[v0], rest, rfl, rfl, Nat.le_trans (by omega : rest.length ≤ 4000) (by decide), fun p hp => ⟨v0, q0, p, rest, qs, rfl, (h1.2 0 v0 q0 rfl rfl).x0 (Ext.refl.new hp), h2 q0 List.mem_cons_self, tupS, h4.x0 (Ext.refl.new hp), fun q hq => h2 q (List.mem_cons_of_mem _ hq), fun v H' e a => k v H' ((Ext.refl.new hp).trans e) a⟩⟩
theorem cmp_lt (p q : Rat) : cmpQ p q < 0 ↔ p < q := by
  unfold cmpQ
  by_cases h : p < q
  · rw [if_pos h]; exact ⟨fun _ => h, fun _ => by decide⟩
  · rw [if_neg h]
    refine ⟨fun z => ?_, fun z => absurd z h⟩
    split at z <;> omega
theorem cmp_gt (p q : Rat) : 0 < cmpQ p q ↔ q < p := by
  unfold cmpQ
  by_cases h : p < q
  · rw [if_pos h]
    exact ⟨fun z => by omega, fun z => absurd (Rat.le_of_lt h) (Rat.not_le.mpr z)⟩
  · rw [if_neg h]
    by_cases h2 : q < p
    · rw [if_pos h2]; exact ⟨fun _ => h2, fun _ => by decide⟩
    · rw [if_neg h2]; exact ⟨fun z => by omega, fun z => absurd z h2⟩
abbrev s_smallest : Stmt := top 25
theorem c_smallest : FnScope ["first", "others", "found", "other"] ["first", "others"] (defScope s_smallest) := ⟨rfl, rfl, rfl, by decide +kernel, rfl, by decide +kernel, by decide +kernel⟩
theorem f_smallest (F : FunD K "smallest" "smallest" (defArgs s_smallest) (defBody s_smallest) (defScope s_smallest) [] [] f fd) (hm : mg "smallest" = some (.ref f)) (Fcompare : Fn P w K mg base 1 "compare" (spCompare K)) : Fn P w K mg base 2 "smallest" (spMin minQ K) := by
  refine fn_star (ps := ["first"]) (pv := "others") (sp := spMinT minQ K) F hm c_smallest (fun _ _ _ _ _ _ us rest hl => match us, rest, hl with | [_], [], _ => rfl | [_], _ :: _, _ => rfl) (fun cdv A outer s H vs Q E hr h => ?_) ?himp
  case himp =>
    exact spMin_imp
  · obtain ⟨v0, q0, t, xs, qs, rfl, h0, z0, ht, ha, hz, k⟩ := h
    have nd := c_smallest.nd
    refine ⟨_, (pss_cons (ps_set (i := 2) nd rfl (by first | exact Or.inl rfl | exact Or.inr rfl) (pv 0))
      (pss_cons (ps_for PassesOwn.never rfl (pi_tup (pv 1)) (pg_name (i := 3) nd rfl (by first | exact Or.inl rfl | exact Or.inr rfl))
        (pss_one (ps_if (pt_cmpR op_lt (pe_fn Fcompare (hr.mono (by decide)) (pa_cons (pv 3) (pa_cons (pv 2) pa_nil))) pe_int (nomark _))
          (pss_one (ps_set (i := 2) nd rfl (by first | exact Or.inl rfl | exact Or.inr rfl) (pv 3)))
          pss_nil)))
      (pss_one (ps_ret (pv 2))))), ?_⟩
    show (_ : TS) _ [some _, some _, none, none] _
    try dsimp only [cxOf, Cx.nox]
    walk_at "go"
    refine r_forT rfl ht (fun i σ H1 => H1 = H ∧ ∃ fv u, σ = [some v0, some (.ref t), some fv, u] ∧ Am K H fv (minQ q0 (qs.take i))) ⟨rfl, _, _, rfl, h0⟩ (fun i σ H1 _ h => h.1 ▸ ht) ?_ ?_
    · rintro i x σ H1 hx ⟨rfl, fv, u, rfl, hf⟩
      obtain ⟨q, hq, hxq⟩ := ha.at_ hx
      have sf : Sz 4000 (minQ q0 (qs.take i)) := minQ_mem z0 fun y hy => hz y (List.mem_of_mem_take hy)
      walk_at "go"
      refine ⟨_, _, q, _, rfl, hxq, hf, hz q (List.mem_of_getElem? hq), sf, ?_⟩
      walk_at "go"
      refine r_dec (fun hlt => ?_) (fun hge => ?_)
      · walk_at "go"
        refine ⟨rfl, _, _, rfl, ?_⟩
        unfold minQ
        rw [fold_take hq]
        show Am K H1 x (if q < minQ q0 (qs.take i) then q else minQ q0 (qs.take i))
        rw [if_pos ((cmp_lt _ _).mp hlt)]
        exact hxq
      · walk_at "go"
        refine ⟨rfl, _, _, rfl, ?_⟩
        unfold minQ
        rw [fold_take hq]
        show Am K H1 fv (if q < minQ q0 (qs.take i) then q else minQ q0 (qs.take i))
        rw [if_neg fun z => hge ((cmp_lt _ _).mpr z)]
        exact hf
    · rintro σ H1 ⟨rfl, fv, u, rfl, hf⟩
      walk_at "go"
      rw [ha.1, List.take_length] at hf
      exact k _ _ Ext.refl hf
abbrev s_largest : Stmt := top 26
theorem c_largest : FnScope ["first", "others", "found", "other"] ["first", "others"] (defScope s_largest) := ⟨rfl, rfl, rfl, by decide +kernel, rfl, by decide +kernel, by decide +kernel⟩
theorem f_largest (F : FunD K "largest" "largest" (defArgs s_largest) (defBody s_largest) (defScope s_largest) [] [] f fd) (hm : mg "largest" = some (.ref f)) (Fcompare : Fn P w K mg base 1 "compare" (spCompare K)) : Fn P w K mg base 2 "largest" (spMin maxQ K) := by
  refine fn_star (ps := ["first"]) (pv := "others") (sp := spMinT maxQ K) F hm c_largest (fun _ _ _ _ _ _ us rest hl => match us, rest, hl with | [_], [], _ => rfl | [_], _ :: _, _ => rfl) (fun cdv A outer s H vs Q E hr h => ?_) ?himp
  case himp =>
    exact spMin_imp
  · obtain ⟨v0, q0, t, xs, qs, rfl, h0, z0, ht, ha, hz, k⟩ := h
    have nd := c_largest.nd
    refine ⟨_, (pss_cons (ps_set (i := 2) nd rfl (by first | exact Or.inl rfl | exact Or.inr rfl) (pv 0))
      (pss_cons (ps_for PassesOwn.never rfl (pi_tup (pv 1)) (pg_name (i := 3) nd rfl (by first | exact Or.inl rfl | exact Or.inr rfl))
        (pss_one (ps_if (pt_cmpR op_gt (pe_fn Fcompare (hr.mono (by decide)) (pa_cons (pv 3) (pa_cons (pv 2) pa_nil))) pe_int (nomark _))
          (pss_one (ps_set (i := 2) nd rfl (by first | exact Or.inl rfl | exact Or.inr rfl) (pv 3)))
          pss_nil)))
      (pss_one (ps_ret (pv 2))))), ?_⟩
    show (_ : TS) _ [some _, some _, none, none] _
    try dsimp only [cxOf, Cx.nox]
    walk_at "go"
    refine r_forT rfl ht (fun i σ H1 => H1 = H ∧ ∃ fv u, σ = [some v0, some (.ref t), some fv, u] ∧ Am K H fv (maxQ q0 (qs.take i))) ⟨rfl, _, _, rfl, h0⟩ (fun i σ H1 _ h => h.1 ▸ ht) ?_ ?_
    · rintro i x σ H1 hx ⟨rfl, fv, u, rfl, hf⟩
      obtain ⟨q, hq, hxq⟩ := ha.at_ hx
      have sf : Sz 4000 (maxQ q0 (qs.take i)) := maxQ_mem z0 fun y hy => hz y (List.mem_of_mem_take hy)
      walk_at "go"
      refine ⟨_, _, q, _, rfl, hxq, hf, hz q (List.mem_of_getElem? hq), sf, ?_⟩
      walk_at "go"
      refine r_dec (fun hlt => ?_) (fun hge => ?_)
      · walk_at "go"
        refine ⟨rfl, _, _, rfl, ?_⟩
        unfold maxQ
        rw [fold_take hq]
        show Am K H1 x (if maxQ q0 (qs.take i) < q then q else maxQ q0 (qs.take i))
        rw [if_pos ((cmp_gt _ _).mp hlt)]
        exact hxq
      · walk_at "go"
        refine ⟨rfl, _, _, rfl, ?_⟩
        unfold maxQ
        rw [fold_take hq]
        show Am K H1 fv (if maxQ q0 (qs.take i) < q then q else maxQ q0 (qs.take i))
        rw [if_neg fun z => hge ((cmp_gt _ _).mpr z)]
        exact hf
    · rintro σ H1 ⟨rfl, fv, u, rfl, hf⟩
      walk_at "go"
      rw [ha.1, List.take_length] at hf
      exact k _ _ Ext.refl hf
def spPair (K : PySem.W.Frag) : Sp := fun vs H Q _ => ∃ a b : Nat, vs = [.int (a : Int), .int (b : Int)] ∧ 0 < b ∧ a < 2 ^ 8900 ∧ b < 2 ^ 8900 ∧ RetAm K H Q (mkRat (a : Int) b)
abbrev s_law_pair : Stmt := top 34
theorem c_law_pair : FnScope ["_law_a", "_law_b", "_law_x", "_law_y"] ["_law_a", "_law_b"] (defScope s_law_pair) := ⟨rfl, rfl, rfl, by decide +kernel, rfl, by decide +kernel, by decide +kernel⟩
theorem f_law_pair (F : FunD K "_law_pair" "_law_pair" (defArgs s_law_pair) (defBody s_law_pair) (defScope s_law_pair) [] [] f fd) (hm : mg "_law_pair" = some (.ref f)) (T : Bt mg) : Fn P w K mg base 1 "_law_pair" (spPair K) := by
  refine fn_def F hm c_law_pair (fun vs H Q E h => ?_) (fun _ _ _ _ _ _ us hl => match us, hl with | [_, _], _ => rfl) (fun cdv A outer s H vs Q E hr h => ?_)
  · obtain ⟨a, b, rfl, _⟩ := h
    rfl
  · obtain ⟨a, b, rfl, hb, la, lb, k⟩ := h
    have nd := c_law_pair.nd
    refine ⟨_, (pss_cons (ps_par (i := 2) (j := 3) (by rfl) nd rfl rfl (by decide) rfl rfl (pa_cons (pv 0) (pa_cons (pv 1) pa_nil)) (by rfl))
      (pss_cons (ps_while PassesOwn.never (pt_cmpR op_gt (pv 3) pe_int (nomark _))
        (pss_one (ps_par (i := 2) (j := 3) (by rfl) nd rfl rfl (by decide) rfl rfl (pa_cons (pv 3) (pa_cons (pe_op op_mod (pe_callTy call_int1 (by rfl) T.int (by decide +kernel) (pa_cons (pv 2) pa_nil)) (pv 3)) pa_nil)) (by rfl))))
      (pss_one (ps_ret (pe_tup (pa_cons (pe_op op_fdivW (pv 0) (pv 2)) (pa_cons (pe_op op_fdivW (pv 1) (pv 2)) pa_nil))))))), ?_⟩
    show (_ : TS) _ [some _, some _, none, none] _
    try dsimp only [cxOf, Cx.nox]
    walk_at "go"
    refine r_while (fun m σ H1 => H1 = H ∧ ∃ x y : Nat, y = m ∧ 0 < x + y ∧ σ = [some (.int (a : Int)), some (.int (b : Int)), some (.int (x : Int)), some (.int (y : Int))] ∧ Nat.gcd x y = Nat.gcd a b) b ⟨rfl, a, b, rfl, by omega, rfl, rfl⟩ ?_
    rintro m σ H1 ⟨rfl, x, y, rfl, hxy, rfl, hg⟩
    walk_at "go"
    refine r_dec (fun hy => ?_) (fun hy => ?_)
    · have hy' : 0 < y := by omega
      refine ⟨fun σ H' => H' = H1 ∧ σ = [some (.int (a : Int)), some (.int (b : Int)), some (.int (y : Int)), some (.int ((x % y : Nat) : Int))], ?_, ?_⟩
      · rintro σ' H' ⟨rfl, rfl⟩
        refine ⟨x % y, Nat.mod_lt _ hy', rfl, y, x % y, rfl, by omega, rfl, ?_⟩
        rw [← hg, Nat.gcd_comm x y, Nat.gcd_rec y x, Nat.gcd_comm]
      · walk_at "go"
        exact ⟨rfl, rfl⟩
    · have y0 : y = 0 := by omega
      subst y0
      rw [Nat.gcd_zero_right] at hg
      have hx : 0 < x := by omega
      have lx : x < 2 ^ 8900 := Nat.lt_of_le_of_lt (by rw [hg]; exact Nat.gcd_le_right _ hb) lb
      have d1 : ∀ i : Int, CDivW i (x : Int) := fun i => cdiv hx lx (by decide) (by decide)
      walk_at "go"
      refine r_I (d1 _) ?_
      walk_at "go"
      refine r_I (d1 _) ?_
      walk_at "go"
      refine k _ _ (Ext.refl.new (by assumption)) ⟨_, rfl, ?_⟩
      obtain ⟨x1, x2⟩ := mk_parts a b hb
      rw [x1, x2, ← hg]
      simp only [Int.natCast_ediv]
      exact tupS
end
end Yk

set_option maxHeartbeats 1000000
namespace Yk
open PySem PySem.Spec PyProof.Rows L2

section
variable {P : Program} {w : World} {K : PySem.W.Frag} {mg : Str → Option Value} {base : Heap} {f : Addr} {fd : FuncData}
theorem szd {n : Nat} {q : Rat} (h : Sz n q) : (q.den : Int).natAbs < 2 ^ n := h.2
theorem mulz {m n : Nat} {i j : Int} (hi : i.natAbs < 2 ^ m) (hj : j.natAbs < 2 ^ n) : (i * j).natAbs < 2 ^ (m + n) := wide_lt hi hj
/-- amounts are not below nought: their first numbers are natural -/
theorem num_nat {q : Rat} (h : 0 ≤ q) : q.num = ((q.num.toNat : Nat) : Int) := (Int.toNat_of_nonneg (num_nn h)).symm
theorem pos_num {q : Rat} (h : 0 < q) : 0 < q.num.toNat := by have := num_pos' h; omega
theorem mk_add (p q : Rat) : mkRat (p.num * q.den + q.num * p.den) (p.den * q.den) = p + q := by rw [Rat.add_def, Rat.normalize_eq_mkRat]
theorem mk_mul (p q : Rat) : mkRat (p.num * q.num) (p.den * q.den) = p * q := by rw [Rat.mul_def, Rat.normalize_eq_mkRat]
def spMore (K : PySem.W.Frag) : Sp := fun vs H Q _ => ∃ v1 v2 p q, vs = [v1, v2] ∧ Am K H v1 p ∧ Am K H v2 q ∧ Sz 4000 p ∧ Sz 4000 q ∧ Q (.bl (decide (q < p))) H
abbrev s_law_more : Stmt := top 35
theorem c_law_more : FnScope ["_law_p", "_law_q"] ["_law_p", "_law_q"] (defScope s_law_more) := ⟨rfl, rfl, rfl, by decide +kernel, rfl, by decide +kernel, by decide +kernel⟩
theorem f_law_more (F : FunD K "_law_more" "_law_more" (defArgs s_law_more) (defBody s_law_more) (defScope s_law_more) [] [] f fd) (hm : mg "_law_more" = some (.ref f))  : Fn P w K mg base 1 "_law_more" (spMore K) := by
  refine fn_def F hm c_law_more (fun vs H Q E h => ?_) (fun _ _ _ _ _ _ us hl => match us, hl with | [_, _], _ => rfl) (fun cdv A outer s H vs Q E hr h => ?_)
  · obtain ⟨v1, v2, p, q, rfl, _⟩ := h
    rfl
  · obtain ⟨v1, v2, p, q, rfl, ⟨a1, rfl, h1⟩, ⟨a2, rfl, h2⟩, z1, z2, k⟩ := h
    have nd := c_law_more.nd
    refine ⟨_, (pss_one (ps_ret (pe_cmpR op_gt (pe_op op_mulW (pe_ix ix_tup (pv 0) pe_int (fun _ _ => rfl)) (pe_ix ix_tup (pv 1) pe_int (fun _ _ => rfl))) (pe_op op_mulW (pe_ix ix_tup (pv 1) pe_int (fun _ _ => rfl)) (pe_ix ix_tup (pv 0) pe_int (fun _ _ => rfl))) (nomark _)))), ?_⟩
    show (_ : TS) _ [some _, some _] _
    try dsimp only [cxOf, Cx.nox]
    have m1 : CMulW p.num (q.den : Int) := cmul z1.1 (szd z2) (by decide) (by decide) (by decide)
    have m2 : CMulW q.num (p.den : Int) := cmul z2.1 (szd z1) (by decide) (by decide) (by decide)
    walk_at "go"
    have e : decide (q.num * (p.den : Int) < p.num * (q.den : Int)) = decide (q < p) := decide_eq_decide.mpr (Rat.lt_iff q p).symm
    rw [e]
    exact k
/-- two amounts, of at most 2000 bits, to one -/
def sp2 (ok : Rat → Rat → Prop) (F : Rat → Rat → Rat) (K : PySem.W.Frag) : Sp := fun vs H Q _ => ∃ v1 v2 p q, vs = [v1, v2] ∧ Am K H v1 p ∧ Am K H v2 q ∧ Sz 4000 p ∧ Sz 4000 q ∧ 0 ≤ p ∧ 0 ≤ q ∧ ok p q ∧ RetAm K H Q (F p q)
abbrev s_law_add : Stmt := top 36
theorem c_law_add : FnScope ["_law_p", "_law_q"] ["_law_p", "_law_q"] (defScope s_law_add) := ⟨rfl, rfl, rfl, by decide +kernel, rfl, by decide +kernel, by decide +kernel⟩
theorem f_law_add (F : FunD K "_law_add" "_law_add" (defArgs s_law_add) (defBody s_law_add) (defScope s_law_add) [] [] f fd) (hm : mg "_law_add" = some (.ref f)) (F_law_pair : Fn P w K mg base 1 "_law_pair" (spPair K)) : Fn P w K mg base 2 "_law_add" (sp2 (fun _ _ => True) (· + ·) K) := by
  refine fn_def F hm c_law_add (fun vs H Q E h => ?_) (fun _ _ _ _ _ _ us hl => match us, hl with | [_, _], _ => rfl) (fun cdv A outer s H vs Q E hr h => ?_)
  · obtain ⟨v1, v2, p, q, rfl, _⟩ := h
    rfl
  · obtain ⟨v1, v2, p, q, rfl, ⟨a1, rfl, h1⟩, ⟨a2, rfl, h2⟩, z1, z2, p0, q0, _, k⟩ := h
    have nd := c_law_add.nd
    refine ⟨_, (pss_one (ps_ret (pe_fn F_law_pair (hr.mono (by decide)) (pa_cons (pe_op op_add (pe_op op_mulW (pe_ix ix_tup (pv 0) pe_int (fun _ _ => rfl)) (pe_ix ix_tup (pv 1) pe_int (fun _ _ => rfl))) (pe_op op_mulW (pe_ix ix_tup (pv 1) pe_int (fun _ _ => rfl)) (pe_ix ix_tup (pv 0) pe_int (fun _ _ => rfl)))) (pa_cons (pe_op op_mulW (pe_ix ix_tup (pv 0) pe_int (fun _ _ => rfl)) (pe_ix ix_tup (pv 1) pe_int (fun _ _ => rfl))) pa_nil))))), ?_⟩
    show (_ : TS) _ [some _, some _] _
    try dsimp only [cxOf, Cx.nox]
    have m1 : CMulW p.num (q.den : Int) := cmul z1.1 (szd z2) (by decide) (by decide) (by decide)
    have m2 : CMulW q.num (p.den : Int) := cmul z2.1 (szd z1) (by decide) (by decide) (by decide)
    have m3 : CMulW (p.den : Int) (q.den : Int) := cmul (szd z1) (szd z2) (by decide) (by decide) (by decide)
    walk_at "go"
    have e1 := mulz z1.1 (szd z2)
    have e2 := mulz z2.1 (szd z1)
    have e3 : p.den * q.den < 2 ^ (4000 + 4000) := by rw [Nat.pow_add]; exact Nat.mul_lt_mul'' z1.2 z2.2
    have e4 : (2 : Nat) ^ (4000 + 4000) + 2 ^ (4000 + 4000) ≤ 2 ^ 8900 := by decide +kernel
    have n1 : 0 ≤ p.num * (q.den : Int) := Int.mul_nonneg (num_nn p0) (by omega)
    have n2 : 0 ≤ q.num * (p.den : Int) := Int.mul_nonneg (num_nn q0) (by omega)
    refine ⟨(p.num * (q.den : Int) + q.num * (p.den : Int)).toNat, p.den * q.den, ?_, Nat.mul_pos p.den_pos q.den_pos, ?_, by omega, fun v H' e a => k v H' e ?_⟩
    · rw [Int.toNat_of_nonneg (by omega), Int.natCast_mul]
    · generalize (2 : Nat) ^ (4000 + 4000) = B at *
      generalize (2 : Nat) ^ 8900 = C at *
      omega
    · rw [Int.toNat_of_nonneg (by omega), mk_add] at a
      exact a
abbrev s_law_mul : Stmt := top 38
theorem c_law_mul : FnScope ["_law_p", "_law_q"] ["_law_p", "_law_q"] (defScope s_law_mul) := ⟨rfl, rfl, rfl, by decide +kernel, rfl, by decide +kernel, by decide +kernel⟩
theorem f_law_mul (F : FunD K "_law_mul" "_law_mul" (defArgs s_law_mul) (defBody s_law_mul) (defScope s_law_mul) [] [] f fd) (hm : mg "_law_mul" = some (.ref f)) (F_law_pair : Fn P w K mg base 1 "_law_pair" (spPair K)) : Fn P w K mg base 2 "_law_mul" (sp2 (fun _ _ => True) (· * ·) K) := by
  refine fn_def F hm c_law_mul (fun vs H Q E h => ?_) (fun _ _ _ _ _ _ us hl => match us, hl with | [_, _], _ => rfl) (fun cdv A outer s H vs Q E hr h => ?_)
  · obtain ⟨v1, v2, p, q, rfl, _⟩ := h
    rfl
  · obtain ⟨v1, v2, p, q, rfl, ⟨a1, rfl, h1⟩, ⟨a2, rfl, h2⟩, z1, z2, p0, q0, _, k⟩ := h
    have nd := c_law_mul.nd
    refine ⟨_, (pss_one (ps_ret (pe_fn F_law_pair (hr.mono (by decide)) (pa_cons (pe_op op_mulW (pe_ix ix_tup (pv 0) pe_int (fun _ _ => rfl)) (pe_ix ix_tup (pv 1) pe_int (fun _ _ => rfl))) (pa_cons (pe_op op_mulW (pe_ix ix_tup (pv 0) pe_int (fun _ _ => rfl)) (pe_ix ix_tup (pv 1) pe_int (fun _ _ => rfl))) pa_nil))))), ?_⟩
    show (_ : TS) _ [some _, some _] _
    try dsimp only [cxOf, Cx.nox]
    have m1 : CMulW p.num q.num := cmul z1.1 z2.1 (by decide) (by decide) (by decide)
    have m3 : CMulW (p.den : Int) (q.den : Int) := cmul (szd z1) (szd z2) (by decide) (by decide) (by decide)
    walk_at "go"
    have e1 := mulz z1.1 z2.1
    have e3 : p.den * q.den < 2 ^ (4000 + 4000) := by rw [Nat.pow_add]; exact Nat.mul_lt_mul'' z1.2 z2.2
    have e4 : (2 : Nat) ^ (4000 + 4000) ≤ 2 ^ 8900 := by decide +kernel
    have n1 : 0 ≤ p.num * q.num := Int.mul_nonneg (num_nn p0) (num_nn q0)
    refine ⟨(p.num * q.num).toNat, p.den * q.den, ?_, Nat.mul_pos p.den_pos q.den_pos, ?_, by omega, fun v H' e a => k v H' e ?_⟩
    · rw [Int.toNat_of_nonneg (by omega), Int.natCast_mul]
    · generalize (2 : Nat) ^ (4000 + 4000) = B at *
      generalize (2 : Nat) ^ 8900 = C at *
      omega
    · rw [Int.toNat_of_nonneg (by omega), mk_mul] at a
      exact a
theorem mk_quot {p q : Rat} (hq : 0 < q) : mkRat (p.num * q.den) (p.den * q.num.toNat) = p / q := by
  obtain ⟨i1, i2⟩ := inv_parts hq
  have e : q⁻¹.den = q.num.toNat := by omega
  rw [Rat.div_def, ← mk_mul, i1, e]
abbrev s_law_div : Stmt := top 39
theorem c_law_div : FnScope ["_law_p", "_law_q"] ["_law_p", "_law_q"] (defScope s_law_div) := ⟨rfl, rfl, rfl, by decide +kernel, rfl, by decide +kernel, by decide +kernel⟩
theorem f_law_div (F : FunD K "_law_div" "_law_div" (defArgs s_law_div) (defBody s_law_div) (defScope s_law_div) [] [] f fd) (hm : mg "_law_div" = some (.ref f)) (F_law_pair : Fn P w K mg base 1 "_law_pair" (spPair K)) : Fn P w K mg base 2 "_law_div" (sp2 (fun _ q => 0 < q) (· / ·) K) := by
  refine fn_def F hm c_law_div (fun vs H Q E h => ?_) (fun _ _ _ _ _ _ us hl => match us, hl with | [_, _], _ => rfl) (fun cdv A outer s H vs Q E hr h => ?_)
  · obtain ⟨v1, v2, p, q, rfl, _⟩ := h
    rfl
  · obtain ⟨v1, v2, p, q, rfl, ⟨a1, rfl, h1⟩, ⟨a2, rfl, h2⟩, z1, z2, p0, q0, hq, k⟩ := h
    have nd := c_law_div.nd
    refine ⟨_, (pss_one (ps_ret (pe_fn F_law_pair (hr.mono (by decide)) (pa_cons (pe_op op_mulW (pe_ix ix_tup (pv 0) pe_int (fun _ _ => rfl)) (pe_ix ix_tup (pv 1) pe_int (fun _ _ => rfl))) (pa_cons (pe_op op_mulW (pe_ix ix_tup (pv 0) pe_int (fun _ _ => rfl)) (pe_ix ix_tup (pv 1) pe_int (fun _ _ => rfl))) pa_nil))))), ?_⟩
    show (_ : TS) _ [some _, some _] _
    try dsimp only [cxOf, Cx.nox]
    have m1 : CMulW p.num (q.den : Int) := cmul z1.1 (szd z2) (by decide) (by decide) (by decide)
    have m3 : CMulW (p.den : Int) q.num := cmul (szd z1) z2.1 (by decide) (by decide) (by decide)
    walk_at "go"
    have e1 := mulz z1.1 (szd z2)
    have l2 : q.num.toNat < 2 ^ 4000 := by have := z2.1; have := num_nn q0; generalize (2 : Nat) ^ 4000 = B at *; omega
    have e3 : p.den * q.num.toNat < 2 ^ (4000 + 4000) := by rw [Nat.pow_add]; exact Nat.mul_lt_mul'' z1.2 l2
    have e4 : (2 : Nat) ^ (4000 + 4000) ≤ 2 ^ 8900 := by decide +kernel
    have n1 : 0 ≤ p.num * (q.den : Int) := Int.mul_nonneg (num_nn p0) (by omega)
    refine ⟨(p.num * (q.den : Int)).toNat, p.den * q.num.toNat, ?_, Nat.mul_pos p.den_pos (pos_num hq), ?_, by omega, fun v H' e a => k v H' e ?_⟩
    · rw [Int.toNat_of_nonneg (by omega), Int.natCast_mul, ← num_nat q0]
    · generalize (2 : Nat) ^ (4000 + 4000) = B at *
      generalize (2 : Nat) ^ 8900 = C at *
      omega
    · rw [Int.toNat_of_nonneg (by omega), mk_quot hq] at a
      exact a
end
end Yk

set_option maxHeartbeats 1000000
namespace Yk
open PySem PySem.Spec PyProof.Rows L2

section
variable {P : Program} {w : World} {K : PySem.W.Frag} {mg : Str → Option Value} {base : Heap} {f : Addr} {fd : FuncData}
def lmin (p q : Rat) : Rat := if q < p then q else p
def lmax (p q : Rat) : Rat := if q < p then p else q
abbrev s_law_min : Stmt := top 40
theorem c_law_min : FnScope ["_law_p", "_law_q"] ["_law_p", "_law_q"] (defScope s_law_min) := ⟨rfl, rfl, rfl, by decide +kernel, rfl, by decide +kernel, by decide +kernel⟩
theorem f_law_min (F : FunD K "_law_min" "_law_min" (defArgs s_law_min) (defBody s_law_min) (defScope s_law_min) [] [] f fd) (hm : mg "_law_min" = some (.ref f)) (F_law_more : Fn P w K mg base 1 "_law_more" (spMore K)) : Fn P w K mg base 2 "_law_min" (sp2 (fun _ _ => True) lmin K) := by
  refine fn_def F hm c_law_min (fun vs H Q E h => ?_) (fun _ _ _ _ _ _ us hl => match us, hl with | [_, _], _ => rfl) (fun cdv A outer s H vs Q E hr h => ?_)
  · obtain ⟨v1, v2, p, q, rfl, _⟩ := h
    rfl
  · obtain ⟨v1, v2, p, q, rfl, h1, h2, z1, z2, p0, q0, _, k⟩ := h
    have nd := c_law_min.nd
    refine ⟨_, (pss_one (ps_ret (pe_ifExp (pt_val (pe_fn F_law_more (hr.mono (by decide)) (pa_cons (pv 0) (pa_cons (pv 1) pa_nil)))) (pv 1) (pv 0)))), ?_⟩
    show (_ : TS) _ [some _, some _] _
    try dsimp only [cxOf, Cx.nox]
    walk_at "go"
    refine ⟨_, _, p, q, rfl, h1, h2, z1, z2, ?_⟩
    refine r_bl ?_
    refine r_dec (fun hl => ?_) (fun hl => ?_)
    · walk_at "go"
      refine k _ _ Ext.refl ?_
      unfold lmin
      rw [if_pos hl]
      exact h2
    · walk_at "go"
      refine k _ _ Ext.refl ?_
      unfold lmin
      rw [if_neg hl]
      exact h1
abbrev s_law_max : Stmt := top 41
theorem c_law_max : FnScope ["_law_p", "_law_q"] ["_law_p", "_law_q"] (defScope s_law_max) := ⟨rfl, rfl, rfl, by decide +kernel, rfl, by decide +kernel, by decide +kernel⟩
theorem f_law_max (F : FunD K "_law_max" "_law_max" (defArgs s_law_max) (defBody s_law_max) (defScope s_law_max) [] [] f fd) (hm : mg "_law_max" = some (.ref f)) (F_law_more : Fn P w K mg base 1 "_law_more" (spMore K)) : Fn P w K mg base 2 "_law_max" (sp2 (fun _ _ => True) lmax K) := by
  refine fn_def F hm c_law_max (fun vs H Q E h => ?_) (fun _ _ _ _ _ _ us hl => match us, hl with | [_, _], _ => rfl) (fun cdv A outer s H vs Q E hr h => ?_)
  · obtain ⟨v1, v2, p, q, rfl, _⟩ := h
    rfl
  · obtain ⟨v1, v2, p, q, rfl, h1, h2, z1, z2, p0, q0, _, k⟩ := h
    have nd := c_law_max.nd
    refine ⟨_, (pss_one (ps_ret (pe_ifExp (pt_val (pe_fn F_law_more (hr.mono (by decide)) (pa_cons (pv 0) (pa_cons (pv 1) pa_nil)))) (pv 0) (pv 1)))), ?_⟩
    show (_ : TS) _ [some _, some _] _
    try dsimp only [cxOf, Cx.nox]
    walk_at "go"
    refine ⟨_, _, p, q, rfl, h1, h2, z1, z2, ?_⟩
    refine r_bl ?_
    refine r_dec (fun hl => ?_) (fun hl => ?_)
    · walk_at "go"
      refine k _ _ Ext.refl ?_
      unfold lmax
      rw [if_pos hl]
      exact h1
    · walk_at "go"
      refine k _ _ Ext.refl ?_
      unfold lmax
      rw [if_neg hl]
      exact h2
def spOrder (K : PySem.W.Frag) : Sp := fun vs H Q _ => ∃ v1 v2 p q, vs = [v1, v2] ∧ Am K H v1 p ∧ Am K H v2 q ∧ Sz 4000 p ∧ Sz 4000 q ∧ Q (.int (cmpQ p q)) H
theorem sumQ_nn : ∀ {qs : List Rat} {z : Rat}, 0 ≤ z → (∀ q ∈ qs, 0 ≤ q) → 0 ≤ qs.foldl (· + ·) z
  | [], z, h, _ => h
  | q :: r, z, h, hq => sumQ_nn (qs := r) (z := z + q) (Rat.add_nonneg h (hq q List.mem_cons_self)) fun x hx => hq x (List.mem_cons_of_mem _ hx)
def spSum (K : PySem.W.Frag) : Sp := fun vs H Q _ => ∃ t xs qs m, vs = [V.ref t] ∧ SqL K H t xs ∧ Ams K H xs qs ∧ (∀ q ∈ qs, Sz m q) ∧ (∀ q ∈ qs, 0 ≤ q) ∧ m ≤ 4000 ∧ 1 + qs.length * (m + 1) ≤ 4000 ∧ RetAm K H Q (sumQ qs)
abbrev s_law_sum : Stmt := top 42
theorem c_law_sum : FnScope ["_law_pairs", "_law_done", "_law_p"] ["_law_pairs"] (defScope s_law_sum) := ⟨rfl, rfl, rfl, by decide +kernel, rfl, by decide +kernel, by decide +kernel⟩
theorem f_law_sum (F : FunD K "_law_sum" "_law_sum" (defArgs s_law_sum) (defBody s_law_sum) (defScope s_law_sum) [] [] f fd) (hm : mg "_law_sum" = some (.ref f)) (F_law_add : Fn P w K mg base 2 "_law_add" (sp2 (fun _ _ => True) (· + ·) K)) : Fn P w K mg base 3 "_law_sum" (spSum K) := by
  refine fn_def F hm c_law_sum (fun vs H Q E h => ?_) (fun _ _ _ _ _ _ us hl => match us, hl with | [_], _ => rfl) (fun cdv A outer s H vs Q E hr h => ?_)
  · obtain ⟨t, xs, qs, m, rfl, _⟩ := h
    rfl
  · obtain ⟨t, xs, qs, m, rfl, ht, ha, hz, hn, hm, hl, k⟩ := h
    have nd := c_law_sum.nd
    refine ⟨_, (pss_cons (ps_set (i := 1) nd rfl (by first | exact Or.inl rfl | exact Or.inr rfl) (pe_tup (pa_cons pe_int (pa_cons pe_int pa_nil))))
      (pss_cons (ps_for PassesOwn.never rfl (pi_list (pv 0)) (pg_name (i := 2) nd rfl (by first | exact Or.inl rfl | exact Or.inr rfl))
        (pss_one (ps_set (i := 1) nd rfl (by first | exact Or.inl rfl | exact Or.inr rfl) (pe_fn F_law_add (hr.mono (by decide)) (pa_cons (pv 1) (pa_cons (pv 2) pa_nil))))))
      (pss_one (ps_ret (pv 1))))), ?_⟩
    show (_ : TS) _ [some _, none, none] _
    try dsimp only [cxOf, Cx.nox]
    walk_at "go"
    refine r_forL rfl (by walk_at "sq") (fun i σ H1 => Ext [] H H1 ∧ ∃ fv u, σ = [some (.ref t), some fv, u] ∧ Am K H1 fv (sumQ (qs.take i))) ⟨Ext.refl.new (by assumption), _, _, rfl, ⟨_, rfl, tupS⟩⟩ (fun i σ H1 _ h => lst0 h.1 ht) ?_ ?_
    · rintro i x σ H1 hx ⟨e1, fv, u, rfl, hf⟩
      have hi : i < qs.length := by rw [← ha.1]; exact (List.getElem?_eq_some_iff.mp hx).1
      have hq : qs[i]? = some qs[i] := List.getElem?_eq_getElem hi
      have hb := sumQ_sz i hz (by omega)
      have hsz : 1 + i * (m + 1) ≤ 4000 := Nat.le_trans (by have := Nat.mul_le_mul_right (m + 1) (Nat.le_of_lt hi); omega) hl
      walk_at "go"
      refine ⟨_, _, _, qs[i], rfl, hf, (ha.2 i x _ hx hq).x0 e1, hb.mono hsz, (hz _ (List.getElem_mem hi)).mono hm, sumQ_nn (by decide) (fun q hq => hn q (List.mem_of_mem_take hq)), hn _ (List.getElem_mem hi), trivial, fun v H' e a => ?_⟩
      walk_at "go"
      refine ⟨e1.trans e, _, _, rfl, ?_⟩
      rw [sumQ_take hq]
      exact a
    · rintro σ H1 ⟨e1, fv, u, rfl, hf⟩
      walk_at "go"
      rw [ha.1, List.take_length] at hf
      exact k _ _ e1 hf
end
end Yk

set_option maxHeartbeats 2000000
namespace Yk
open PySem PySem.Spec PyProof.Rows L2

section
variable {P : Program} {w : World} {K : PySem.W.Frag} {mg : Str → Option Value} {base : Heap} {f : Addr} {fd : FuncData}
theorem lst_upd {K : PySem.W.Frag} {H : Hp} {a b : Addr} {o : HO} {xs l : List V} (h : SqL K H a xs) (hb : H b = some (.lst l)) (hd : xs ≠ l) : SqL K (upd H b o) a xs := by
  rcases h with (h | ⟨u, h⟩) | h
  · exact .inl (.inl (by rw [upd_ne (fun z => hd (by rw [z, hb] at h; cases h; rfl))]; exact h))
  · exact .inl (.inr ⟨u, by rw [upd_ne (fun z => by rw [z, hb] at h; cases h)]; exact h⟩)
  · exact .inr h
theorem ns_ne (ns : List Int) (it : Addr) (l : List V) : ns.map V.int ≠ .ref it :: l := by
  cases ns with
  | nil => intro h; cases h
  | cons n r => intro h; cases h
theorem cpow {i : Int} {j : Int} (h0 : 0 ≤ j) (h1 : j ≤ 1000000) (h : i.natAbs < 2 ^ 64) : CPow i j := ⟨h0, h1, h⟩
theorem cdivc (i : Int) : CDivW i 97 := ⟨by decide, by decide +kernel⟩
def spDraw (K : PySem.W.Frag) : Sp := fun vs H Q _ => ∃ (b : Bag) (n : Int), vs = [.ref b.a, .int n] ∧ 0 < n ∧ n < 2 ^ 400 ∧ BagAt K H b ∧ ∀ (x : Int) H', 0 ≤ x → x < n → BagAt K H' b → Ext [b.a] H H' → Q (.int x) H'
theorem at_map {ns : List Int} {i : Nat} (h : i < ns.length) : atI (ns.map V.int) (i : Int) = some (.int ns[i]) := atI_nat (by rw [List.getElem?_map, List.getElem?_eq_getElem h] <;> rfl)
theorem bag_ex {K : PySem.W.Frag} {H : Hp} {b it : Addr} {ns : List Int} {pos : Nat} {rest seed cnt : Int} (hb : H b = some (.lst [.ref it, .int (pos : Int), .int rest, .int seed, .int cnt])) (hi : SqL K H it (ns.map V.int)) (hns : ns.length ≤ 63)
    (hp : pos ≤ ns.length) (hr : 0 ≤ rest) (h0 : 0 ≤ seed) (h1 : seed < 2147483629) : BagAt K H ⟨b, it, ns⟩ := ⟨_, hb, hi, hns, pos, rest, seed, cnt, rfl, hp, hr, h0, h1⟩
theorem modI (a : Int) {n : Int} (h : 0 < n) : 0 ≤ a % n ∧ a % n < n := ⟨Int.emod_nonneg a (by omega), Int.emod_lt_of_pos a h⟩
abbrev s_law_draw : Stmt := top 31
theorem c_law_draw : FnScope ["_law_bag_here", "_law_many", "_law_item", "_law_digit"] ["_law_bag_here", "_law_many"] (defScope s_law_draw) := ⟨rfl, rfl, rfl, by decide +kernel, rfl, by decide +kernel, by decide +kernel⟩
theorem f_law_draw (F : FunD K "_law_draw" "_law_draw" (defArgs s_law_draw) (defBody s_law_draw) (defScope s_law_draw) [] [] f fd) (hm : mg "_law_draw" = some (.ref f)) (T : Bt mg) : Fn P w K mg base 1 "_law_draw" (spDraw K) := by
  refine fn_def F hm c_law_draw (fun vs H Q E h => ?_) (fun _ _ _ _ _ _ us hl => match us, hl with | [_, _], _ => rfl) (fun cdv A outer s H vs Q E hr h => ?_)
  · obtain ⟨b, n, rfl, _⟩ := h
    rfl
  · obtain ⟨⟨b, it, ns⟩, n, rfl, hn, hn2, ⟨l, hb, hi, hns, pos, rest, seed, cnt, rfl, hp, hr0, hs0, hs1⟩, k⟩ := h
    have nd := c_law_draw.nd
    dsimp only at hb hi hns hp k
    refine ⟨_, (pss_cons (ps_asg (pe_op op_add (pe_ix ix_list (pv 0) pe_int (fun _ _ => rfl)) pe_int) (pg_sub (pv 0) pe_int set_list))
      (pss_mid (ps_if (PW.pt (pw_and (pt_cmpR op_eq (pe_ix ix_list (pv 0) pe_int (fun _ _ => rfl)) pe_int (nomark _)) (pw_and1 (pt_cmpR op_lt (pe_ix ix_list (pv 0) pe_int (fun _ _ => rfl)) (pe_callB cr_len (by rfl) T.len (by decide +kernel) (pa_cons (pe_ix ix_list (pv 0) pe_int (fun _ _ => rfl)) pa_nil)) (nomark _)))))
        (pss_cons (ps_set (i := 2) nd rfl (by first | exact Or.inl rfl | exact Or.inr rfl) (pe_ix ix_list (pe_ix ix_list (pv 0) pe_int (fun _ _ => rfl)) (pe_ix ix_list (pv 0) pe_int (fun _ _ => rfl)) (fun _ _ => rfl)))
        (pss_cons (ps_asg (pe_op op_add (pe_ix ix_list (pv 0) pe_int (fun _ _ => rfl)) pe_int) (pg_sub (pv 0) pe_int set_list))
        (pss_one (ps_if (pt_cmpR op_ge (pv 2) (pe_op op_pow pe_int pe_int) (nomark _))
          (pss_one (ps_asg (pv 2) (pg_sub (pv 0) pe_int set_list)))
          (pss_one (ps_asg (pe_op op_mod (pe_callTy call_int1 (by rfl) T.int (by decide +kernel) (pa_cons (pe_op op_add (pe_op op_add (pe_op op_mul (pe_ix ix_list (pv 0) pe_int (fun _ _ => rfl)) pe_int) (pe_op op_mul (pe_op op_mod (pe_callTy call_int1 (by rfl) T.int (by decide +kernel) (pa_cons (pv 2) pa_nil)) pe_int) pe_int)) pe_int) pa_nil)) pe_int) (pg_sub (pv 0) pe_int set_list)))))))
        pss_nil)
      (pss_cons (ps_if (pt_cmpR op_gt (pe_ix ix_list (pv 0) pe_int (fun _ _ => rfl)) pe_int (nomark _))
        (pss_cons (ps_set (i := 3) nd rfl (by first | exact Or.inl rfl | exact Or.inr rfl) (pe_op op_mod (pe_callTy call_int1 (by rfl) T.int (by decide +kernel) (pa_cons (pe_ix ix_list (pv 0) pe_int (fun _ _ => rfl)) pa_nil)) (pv 1)))
        (pss_cons (ps_asg (pe_op op_fdivW (pe_ix ix_list (pv 0) pe_int (fun _ _ => rfl)) (pv 1)) (pg_sub (pv 0) pe_int set_list))
        (pss_one (ps_ret (pv 3)))))
        pss_nil)
      (pss_cons (ps_asg (pe_op op_mod (pe_callTy call_int1 (by rfl) T.int (by decide +kernel) (pa_cons (pe_op op_add (pe_op op_add (pe_op op_pow (pe_ix ix_list (pv 0) pe_int (fun _ _ => rfl)) pe_int) (pe_op op_mul (pe_ix ix_list (pv 0) pe_int (fun _ _ => rfl)) pe_int)) pe_int) pa_nil)) pe_int) (pg_sub (pv 0) pe_int set_list))
      (pss_one (ps_ret (pe_op op_mod (pe_callTy call_int1 (by rfl) T.int (by decide +kernel) (pa_cons (pe_op op_add (pe_op op_fdivW (pe_ix ix_list (pv 0) pe_int (fun _ _ => rfl)) pe_int) (pe_op op_mul (pe_op op_mod (pe_callTy call_int1 (by rfl) T.int (by decide +kernel) (pa_cons (pe_ix ix_list (pv 0) pe_int (fun _ _ => rfl)) pa_nil)) pe_int) pe_int)) pa_nil)) (pv 1)))))))), ?_⟩
    show (_ : TS) _ [some _, some _, none, none] _
    try dsimp only [cxOf, Cx.nox]
    have bb : SqL K H b [.ref it, .int (pos : Int), .int rest, .int seed, .int cnt] := .inl (.inl hb)
    walk_at "go"
    refine r_setB (K := K) hb rfl _ rfl (fun H1 hb1 e1 c1 => ?_)
    have bb1 : SqL K H1 b [.ref it, .int (pos : Int), .int rest, .int seed, .int (cnt + 1)] := .inl (.inl hb1)
    have hi1 := c1 _ _ hi (ns_ne _ _ _)
    refine r_mid (fun σ H2 => ∃ (u : Option V) (pos' : Nat) (rest' seed' : Int), σ = [some (.ref b), some (.int n), u, none] ∧ H2 b = some (.lst [.ref it, .int (pos' : Int), .int rest', .int seed', .int (cnt + 1)]) ∧ SqL K H2 it (ns.map V.int) ∧ Ext [b] H H2 ∧ pos' ≤ ns.length ∧ 0 ≤ rest' ∧ 0 ≤ seed' ∧ seed' < 2147483629) ?_ ?_
    · walk_at "go"
      refine r_dec (fun hrest => ?_) (fun hrest => ?_)
      · walk_at "go"
        refine r_dec (fun hpos => ?_) (fun hpos => ?_)
        · have hpn : pos < ns.length := by rw [List.length_map] at hpos; omega
          walk_at "go"
          refine r_ixL hi1 (at_map hpn) ?_
          walk_at "go"
          refine r_setB (K := K) hb1 rfl _ rfl (fun H2 hb2 e2 c2 => ?_)
          have bb2 : SqL K H2 b [.ref it, .int ((pos : Int) + 1), .int rest, .int seed, .int (cnt + 1)] := .inl (.inl hb2)
          have hi2 := c2 _ _ hi1 (ns_ne _ _ _)
          walk_at "go"
          refine r_dec (fun hge => ?_) (fun hge => ?_)
          · walk_at "go"
            refine r_setB (K := K) hb2 rfl _ rfl (fun H3 hb3 e3 c3 => ?_)
            exact ⟨_, pos + 1, ns[pos], seed, rfl, by rw [Int.natCast_add]; exact hb3, c3 _ _ hi2 (ns_ne _ _ _), (e1.trans e2).trans e3, hpn, Int.le_trans (by decide) hge, hs0, hs1⟩
          · walk_at "go"
            refine r_setB (K := K) hb2 rfl _ rfl (fun H3 hb3 e3 c3 => ?_)
            have hm := modI (seed * 69621 + ns[pos] % 2147483549 * 30103 + 89) (n := 2147483629) (by decide)
            exact ⟨_, pos + 1, rest, _, rfl, by rw [Int.natCast_add]; exact hb3, c3 _ _ hi2 (ns_ne _ _ _), (e1.trans e2).trans e3, hpn, hr0, hm.1, hm.2⟩
        · walk_at "go"
          exact ⟨_, pos, rest, seed, rfl, hb1, hi1, e1, hp, hr0, hs0, hs1⟩
      · walk_at "go"
        exact ⟨_, pos, rest, seed, rfl, hb1, hi1, e1, hp, hr0, hs0, hs1⟩
    · rintro σ H2 ⟨u, pos', rest', seed', rfl, hb2, hi2, e2, hp2, hr2, hs2, hs3⟩
      have bb2 : SqL K H2 b [.ref it, .int (pos' : Int), .int rest', .int seed', .int (cnt + 1)] := .inl (.inl hb2)
      walk_at "go"
      refine r_dec (fun hpos => ?_) (fun hpos => ?_)
      · have d1 : CDivW rest' n := wide_div hn (b := 400) (by omega) (by decide) (by decide)
        walk_at "go"
        refine r_setB (K := K) hb2 rfl _ rfl (fun H3 hb3 e3 c3 => ?_)
        walk_at "go"
        have hm := modI rest' hn
        exact k _ H3 hm.1 hm.2 (bag_ex hb3 (c3 _ _ hi2 (ns_ne _ _ _)) hns hp2 (Int.ediv_nonneg hr2 (by omega)) hs2 hs3) (e2.trans e3)
      · have c4 : CPow seed' 3 := ⟨by decide, by decide, by omega⟩
        walk_at "go"
        refine r_setB (K := K) hb2 rfl _ rfl (fun H3 hb3 e3 c3 => ?_)
        have hm := modI (seed' ^ Int.toNat 3 + (cnt + 1) * 1299709 + 60013) (n := 2147483629) (by decide)
        have bb3 : SqL K H3 b [.ref it, .int (pos' : Int), .int rest', .int ((seed' ^ Int.toNat 3 + (cnt + 1) * 1299709 + 60013) % 2147483629), .int (cnt + 1)] := .inl (.inl hb3)
        walk_at "go"
        have hm2 := modI ((seed' ^ Int.toNat 3 + (cnt + 1) * 1299709 + 60013) % 2147483629 / 97 + (seed' ^ Int.toNat 3 + (cnt + 1) * 1299709 + 60013) % 2147483629 % 7901 * 67) hn
        exact k _ H3 hm2.1 hm2.2 (bag_ex hb3 (c3 _ _ hi2 (ns_ne _ _ _)) hns hp2 hr2 hm.1 hm.2) (e2.trans e3)
end
end Yk

set_option maxHeartbeats 2000000
namespace Yk
open PySem PySem.Spec PyProof.Rows L2

section
variable {P : Program} {w : World} {K : PySem.W.Frag} {mg : Str → Option Value} {base : Heap} {f : Addr} {fd : FuncData}
theorem cut_all {xs : List V} (h : xs.length ≤ 63) : cutV xs none (some 63) = xs := by
  unfold cutV
  rw [show HT.sIx xs.length 0 none = 0 from rfl, show HT.sIx xs.length xs.length (some 63) = min 63 xs.length from HT.sIx_nat _ _ 63, List.drop_zero, Nat.min_eq_right h]
  simp
def spBag (K : PySem.W.Frag) : Sp := fun vs H Q _ => ∃ (a : Addr) (ns : List Int), vs = [.ref a] ∧ SqL K H a (ns.map V.int) ∧ ns.length ≤ 63 ∧ ∀ (b : Bag) H', H b.a = none → Ext [] H H' → BagAt K H' b → Q (.ref b.a) H'
abbrev s_law_bag : Stmt := top 30
theorem c_law_bag : FnScope ["_law_script", "_law_seed", "_law_item"] ["_law_script"] (defScope s_law_bag) := ⟨rfl, rfl, rfl, by decide +kernel, rfl, by decide +kernel, by decide +kernel⟩
theorem f_law_bag (F : FunD K "_law_bag" "_law_bag" (defArgs s_law_bag) (defBody s_law_bag) (defScope s_law_bag) [] [] f fd) (hm : mg "_law_bag" = some (.ref f)) (T : Bt mg) : Fn P w K mg base 1 "_law_bag" (spBag K) := by
  refine fn_def F hm c_law_bag (fun vs H Q E h => ?_) (fun _ _ _ _ _ _ us hl => match us, hl with | [_], _ => rfl) (fun cdv A outer s H vs Q E hr h => ?_)
  · obtain ⟨a, ns, rfl, _⟩ := h
    rfl
  · obtain ⟨a, ns, rfl, ha, hns, k⟩ := h
    have nd := c_law_bag.nd
    refine ⟨_, (pss_cons (ps_set (i := 1) nd rfl (by first | exact Or.inl rfl | exact Or.inr rfl) pe_int)
      (pss_cons (ps_for PassesOwn.never rfl (pi_list (pe_slice sl_list (pv 0) po_none (po_some pe_int))) (pg_name (i := 2) nd rfl (by first | exact Or.inl rfl | exact Or.inr rfl))
        (pss_one (ps_set (i := 1) nd rfl (by first | exact Or.inl rfl | exact Or.inr rfl) (pe_op op_mod (pe_callTy call_int1 (by rfl) T.int (by decide +kernel) (pa_cons (pe_op op_add (pe_op op_add (pe_op op_mul (pv 1) pe_int) (pe_op op_mod (pe_callTy call_int1 (by rfl) T.int (by decide +kernel) (pa_cons (pv 2) pa_nil)) pe_int)) pe_int) pa_nil)) pe_int))))
      (pss_one (ps_ret (pe_lst (pa_cons (pe_callTy cr_list (by rfl) T.list (by decide +kernel) (pa_cons (pe_slice sl_list (pv 0) po_none (po_some pe_int)) pa_nil)) (pa_cons pe_int (pa_cons pe_int (pa_cons (pv 1) (pa_cons pe_int pa_nil)))))))))), ?_⟩
    show (_ : TS) _ [some _, none, none] _
    try dsimp only [cxOf, Cx.nox]
    have hc : cutV (ns.map V.int) none (some 63) = ns.map V.int := cut_all (by rw [List.length_map]; exact hns)
    walk_at "go"
    refine r_for ?_
    refine r_iList ?_
    walk_at "go"
    refine r_slList ha fun p hp => ?_
    rw [hc]
    refine ⟨p, rfl, ⟨_, lstS⟩, r_loopL (xs := ns.map V.int) (fun i σ H1 => H1 = upd H p (.lst (ns.map V.int)) ∧ ∃ seed u, σ = [some (.ref a), some (.int seed), u] ∧ 0 ≤ seed ∧ seed < 2147483629) ⟨rfl, 13965, none, rfl, by decide, by decide⟩ (fun i σ H1 _ h => by rw [h.1]; exact lstS) ?_ ?_⟩
    · rintro i x σ H1 hx ⟨rfl, seed, u, rfl, h0, h1⟩
      obtain ⟨z, rfl⟩ : ∃ z, x = V.int z := by
        rw [List.getElem?_map] at hx
        cases e : ns[i]? with
        | none => rw [e] at hx; cases hx
        | some z => rw [e] at hx; exact ⟨z, (Option.some.inj hx).symm⟩
      walk_at "go"
      have hm := modI (seed * 48271 + z % 2147483587 + 307) (n := 2147483629) (by decide)
      exact ⟨rfl, _, _, rfl, hm.1, hm.2⟩
    · rintro σ H1 ⟨rfl, seed, u, rfl, h0, h1⟩
      walk_at "go"
      refine r_slList (lstN ha hp) fun p2 hp2 => ?_
      rw [hc]
      walk_at "go"
      refine r_list (.inl lstS) fun l hl => ?_
      walk_at "go"
      have x3 := ((Ext.refl (S := []) (H := H)).new hp).new hp2 |>.new (o := .lst (ns.map V.int)) hl
      exact k ⟨_, l, ns⟩ _ (x3.free (by assumption)) (x3.new (by assumption)) (bag_ex (pos := 0) upd_same (lstN lstS (by assumption)) hns (Nat.zero_le _) (Int.le_refl _) h0 h1)
/-- one of a row of things: what is told of all of them is told of it -/
def spOf (K : PySem.W.Frag) : Sp := fun vs H Q _ => ∃ (b : Bag) (l : Addr) (xs : List V), vs = [.ref b.a, .ref l] ∧ BagAt K H b ∧ SqL K H l xs ∧ b.a ≠ l ∧ 0 < xs.length ∧ xs.length ≤ 4000 ∧ ∀ (i : Nat) (x : V) H', xs[i]? = some x → BagAt K H' b → Ext [b.a] H H' → Q x H'
abbrev s_law_of : Stmt := top 32
theorem c_law_of : FnScope ["_law_bag_here", "_law_things"] ["_law_bag_here", "_law_things"] (defScope s_law_of) := ⟨rfl, rfl, rfl, by decide +kernel, rfl, by decide +kernel, by decide +kernel⟩
theorem f_law_of (F : FunD K "_law_of" "_law_of" (defArgs s_law_of) (defBody s_law_of) (defScope s_law_of) [] [] f fd) (hm : mg "_law_of" = some (.ref f)) (T : Bt mg) (F_law_draw : Fn P w K mg base 1 "_law_draw" (spDraw K)) : Fn P w K mg base 2 "_law_of" (spOf K) := by
  refine fn_def F hm c_law_of (fun vs H Q E h => ?_) (fun _ _ _ _ _ _ us hl => match us, hl with | [_, _], _ => rfl) (fun cdv A outer s H vs Q E hr h => ?_)
  · obtain ⟨b, l, xs, rfl, _⟩ := h
    rfl
  · obtain ⟨b, l, xs, rfl, hb, hl, hne, h0, h4, k⟩ := h
    have nd := c_law_of.nd
    refine ⟨_, (pss_one (ps_ret (pe_ix ix_list (pv 1) (pe_fn F_law_draw (hr.mono (by decide)) (pa_cons (pv 0) (pa_cons (pe_callB cr_len (by rfl) T.len (by decide +kernel) (pa_cons (pv 1) pa_nil)) pa_nil))) (fun _ _ => rfl)))), ?_⟩
    show (_ : TS) _ [some _, some _] _
    try dsimp only [cxOf, Cx.nox]
    walk_at "go"
    refine ⟨b, _, rfl, by omega, Int.lt_of_le_of_lt (by omega : (xs.length : Int) ≤ 4000) (by decide), hb, fun x H' x0 x1 hb' e => ?_⟩
    have hl' : SqL K H' l xs := lstX e hl (by simpa using fun z => hne z.symm)
    have hx : x.toNat < xs.length := by omega
    refine r_ixL hl' (v := xs[x.toNat]) ?_ (k x.toNat _ H' (List.getElem?_eq_getElem hx) hb' e)
    have e2 : x = ((x.toNat : Nat) : Int) := by omega
    exact at_of e2 (List.getElem?_eq_getElem hx)
end
end Yk

set_option maxHeartbeats 4000000
namespace Yk
open PySem PySem.Spec PyProof.Rows L2

section
variable {P : Program} {w : World} {K : PySem.W.Frag} {mg : Str → Option Value} {base : Heap} {f : Addr} {fd : FuncData}
theorem of_am {K : PySem.W.Frag} {H : Hp} {b : Bag} {l : Addr} {xs : List V} {qs : List Rat} {Q : VK} {E : XK} (hb : BagAt K H b) (hl : SqL K H l xs) (hne : b.a ≠ l) (ha : Ams K H xs qs) (h0 : 0 < qs.length) (h4 : qs.length ≤ 4000)
    (k : ∀ v q H', q ∈ qs → Am K H' v q → BagAt K H' b → Ext [b.a] H H' → Q v H') : spOf K [.ref b.a, .ref l] H Q E :=
  ⟨b, l, xs, rfl, hb, hl, hne, by rw [ha.1]; exact h0, by rw [ha.1]; exact h4, fun i x H' hx hb' e => by
    obtain ⟨q, hq, hm⟩ := ha.at_ hx
    exact k x q H' (List.mem_of_getElem? hq) (hm.b hb e) hb' e⟩
theorem mulp {i j a b : Int} (i0 : 0 ≤ i) (i1 : i < a) (j0 : 0 ≤ j) (j1 : j < b) (ha : a ≤ 2 ^ 400) (hb : b ≤ 2 ^ 400) : CMulW i j := by
  refine cmul (m := 401) (n := 401) ?_ ?_ (by decide) (by decide) (by decide)
  · have : (2 : Nat) ^ 400 < 2 ^ 401 := by decide
    have : ((2 : Nat) ^ 400 : Int) = 2 ^ 400 := by norm_cast
    omega
  · have : (2 : Nat) ^ 400 < 2 ^ 401 := by decide
    have : ((2 : Nat) ^ 400 : Int) = 2 ^ 400 := by norm_cast
    omega
theorem e10 : (10 : Int) ^ Int.toNat 10 = 10000000000 := by decide
theorem e4 : (10 : Int) ^ Int.toNat 4 = 10000 := by decide
theorem e9 : (10 : Int) ^ Int.toNat 9 = 1000000000 := by decide
def spGreat (K : PySem.W.Frag) : Sp := fun vs H Q _ => ∃ b, vs = [.ref b.a] ∧ BagAt K H b ∧ ∀ (x : Int) H', 0 ≤ x → x < 2 ^ 114 → BagAt K H' b → Ext [b.a] H H' → Q (.int x) H'
abbrev s_law_great : Stmt := top 46
theorem c_law_great : FnScope ["_law_bag_here", "_law_a", "_law_b", "_law_c"] ["_law_bag_here"] (defScope s_law_great) := ⟨rfl, rfl, rfl, by decide +kernel, rfl, by decide +kernel, by decide +kernel⟩
theorem f_law_great (F : FunD K "_law_great" "_law_great" (defArgs s_law_great) (defBody s_law_great) (defScope s_law_great) [] [] f fd) (hm : mg "_law_great" = some (.ref f)) (F_law_draw : Fn P w K mg base 1 "_law_draw" (spDraw K)) (F_law_of : Fn P w K mg base 2 "_law_of" (spOf K)) : Fn P w K mg base 3 "_law_great" (spGreat K) := by
  refine fn_def F hm c_law_great (fun vs H Q E h => ?_) (fun _ _ _ _ _ _ us hl => match us, hl with | [_], _ => rfl) (fun cdv A outer s H vs Q E hr h => ?_)
  · obtain ⟨b, rfl, _⟩ := h
    rfl
  · obtain ⟨b, rfl, hb, k⟩ := h
    have nd := c_law_great.nd
    refine ⟨_, (pss_cons (ps_set (i := 1) nd rfl (by first | exact Or.inl rfl | exact Or.inr rfl) (pe_fn F_law_draw (hr.mono (by decide)) (pa_cons (pv 0) (pa_cons (pe_op op_pow pe_int pe_int) pa_nil))))
      (pss_cons (ps_set (i := 2) nd rfl (by first | exact Or.inl rfl | exact Or.inr rfl) (pe_fn F_law_draw (hr.mono (by decide)) (pa_cons (pv 0) (pa_cons (pe_op op_pow pe_int pe_int) pa_nil))))
      (pss_cons (ps_set (i := 3) nd rfl (by first | exact Or.inl rfl | exact Or.inr rfl) (pe_fn F_law_draw (hr.mono (by decide)) (pa_cons (pv 0) (pa_cons (pe_op op_pow pe_int pe_int) pa_nil))))
      (pss_one (ps_ret (pe_fn F_law_of (hr.mono (by decide)) (pa_cons (pv 0) (pa_cons (pe_lst (pa_cons (pv 1) (pa_cons (pe_op op_add (pe_op op_mul (pv 1) (pe_op op_pow pe_int pe_int)) (pv 2)) (pa_cons (pe_op op_add (pe_op op_mul (pe_op op_add (pe_op op_mul (pv 1) (pe_op op_pow pe_int pe_int)) (pv 2)) (pe_op op_pow pe_int pe_int)) (pv 3)) (pa_cons (pe_op op_add (pe_op op_mul (pe_op op_add (pe_op op_mul (pe_op op_add (pe_op op_mul (pv 1) (pe_op op_pow pe_int pe_int)) (pv 2)) (pe_op op_pow pe_int pe_int)) (pv 3)) (pe_op op_pow pe_int pe_int)) (pe_fn F_law_draw (hr.mono (by decide)) (pa_cons (pv 0) (pa_cons (pe_op op_pow pe_int pe_int) pa_nil)))) pa_nil))))) pa_nil)))))))), ?_⟩
    show (_ : TS) _ [some _, none, none, none] _
    try dsimp only [cxOf, Cx.nox]
    walk_at "go"
    refine ⟨b, _, rfl, by decide, by decide, hb, fun x1 H1 l1 u1 b1 n1 => ?_⟩
    walk_at "go"
    refine ⟨b, _, rfl, by decide, by decide, b1, fun x2 H2 l2 u2 b2 n2 => ?_⟩
    walk_at "go"
    refine ⟨b, _, rfl, by decide, by decide, b2, fun x3 H3 l3 u3 b3 n3 => ?_⟩
    rw [e10] at u1 u2 u3
    walk_at "go"
    refine ⟨b, _, rfl, by decide, by decide, b3, fun x4 H4 l4 u4 b4 n4 => ?_⟩
    rw [e4] at u4
    walk_at "go"
    have e14 := ((n1.trans n2).trans n3).trans n4
    refine ⟨b, _, _, rfl, b4.new (by assumption), lstS, b4.ne (by assumption), Nat.succ_pos _, by simp, fun i x H5 hx b5 e5 => ?_⟩
    have e15 : Ext [b.a] H H5 := (e14.new (by assumption)).trans e5
    match i, hx with
    | 0, hx =>
      cases hx
      exact k _ _ l1 (Int.lt_trans u1 (by decide)) b5 e15
    | 1, hx =>
      cases hx
      rw [e10]
      exact k _ _ (by omega) (Int.lt_trans (by omega : x1 * 10000000000 + x2 < 100000000000000000000) (by decide)) b5 e15
    | 2, hx =>
      cases hx
      rw [e10]
      exact k _ _ (by omega) (Int.lt_trans (by omega : (x1 * 10000000000 + x2) * 10000000000 + x3 < 1000000000000000000000000000000) (by decide)) b5 e15
    | 3, hx =>
      cases hx
      rw [e10, e4]
      exact k _ _ (by omega) (Int.lt_of_lt_of_le (by omega : ((x1 * 10000000000 + x2) * 10000000000 + x3) * 10000 + x4 < 10000000000000000000000000000000000) (by decide)) b5 e15
    | i + 4, hx => cases hx
theorem pair_am {a b : Nat} {m : Nat} (ha : a < 2 ^ m) (hb : 0 < b) (hb2 : b < 2 ^ m) : Sz m (mkRat (a : Int) b) ∧ 0 ≤ mkRat (a : Int) b := ⟨sz_mk hb rfl (by simpa using ha) hb2, mk_nn a b⟩
def spAmt (K : PySem.W.Frag) : Sp := fun vs H Q _ => ∃ b, vs = [.ref b.a] ∧ BagAt K H b ∧ ∀ v q H', Am K H' v q → 0 ≤ q → Sz 114 q → BagAt K H' b → Ext [b.a] H H' → Q v H'
/-- a bit: a whole number of twelfths, at most 12 -/
def spBit (K : PySem.W.Frag) : Sp := fun vs H Q _ => ∃ b, vs = [.ref b.a] ∧ BagAt K H b ∧ ∀ v (n d : Nat) H', n ≤ 12 → 0 < d → d ∣ 12 → Am K H' v (mkRat (n : Int) d) → BagAt K H' b → Ext [b.a] H H' → Q v H'
theorem spBit_amt {H : Hp} {b : Bag} {Q : VK} {E : XK} (hb : BagAt K H b) (k : ∀ v q H', Am K H' v q → 0 ≤ q → Sz 114 q → BagAt K H' b → Ext [b.a] H H' → Q v H') : spBit K [.ref b.a] H Q E :=
  ⟨b, rfl, hb, fun v n d H' hn d0 hd a b' e => by
    obtain ⟨z1, z2⟩ := pair_am (m := 114) (Nat.lt_of_le_of_lt hn (by decide)) d0 (Nat.lt_of_le_of_lt (Nat.le_of_dvd (by decide) hd) (by decide))
    exact k v _ H' a z2 z1 b' e⟩
theorem sz_lit {n : Int} {d m : Nat} (hd : d ≠ 0) (hc : n.natAbs.Coprime d) (h1 : n.natAbs < 2 ^ m) (h2 : d < 2 ^ m) : Sz m ⟨n, d, hd, hc⟩ := ⟨h1, h2⟩
theorem nn_lit {n : Int} {d : Nat} (hd : d ≠ 0) (hc : n.natAbs.Coprime d) (h : 0 ≤ n) : (0 : Rat) ≤ ⟨n, d, hd, hc⟩ := Rat.num_nonneg.mp h
def nine : List Rat := [⟨0, 1, by decide, by decide⟩, ⟨1, 1, by decide, by decide⟩, ⟨1000, 1, by decide, by decide⟩, ⟨1, 12, by decide, by decide⟩, ⟨999, 1, by decide, by decide⟩, ⟨1001, 1, by decide, by decide⟩, ⟨12001, 12, by decide, by decide⟩, ⟨1, 13, by decide, by decide⟩, ⟨2, 1, by decide, by decide⟩]
theorem nine_all : ∀ q ∈ nine, 0 ≤ q ∧ Sz 114 q := by
  intro q hq
  unfold nine at hq
  simp only [List.mem_cons, List.not_mem_nil, or_false] at hq
  rcases hq with rfl | rfl | rfl | rfl | rfl | rfl | rfl | rfl | rfl <;> exact ⟨nn_lit _ _ (by decide), sz_lit _ _ (by decide) (by decide)⟩
abbrev s_law_amount : Stmt := top 47
theorem c_law_amount : FnScope ["_law_bag_here", "_law_shape"] ["_law_bag_here"] (defScope s_law_amount) := ⟨rfl, rfl, rfl, by decide +kernel, rfl, by decide +kernel, by decide +kernel⟩
theorem f_law_amount (F : FunD K "_law_amount" "_law_amount" (defArgs s_law_amount) (defBody s_law_amount) (defScope s_law_amount) [] [] f fd) (hm : mg "_law_amount" = some (.ref f)) (T : Bt mg) (F_law_draw : Fn P w K mg base 1 "_law_draw" (spDraw K)) (F_law_of : Fn P w K mg base 2 "_law_of" (spOf K)) (F_law_pair : Fn P w K mg base 1 "_law_pair" (spPair K)) (F_law_great : Fn P w K mg base 3 "_law_great" (spGreat K)) : Fn P w K mg base 4 "_law_amount" (spAmt K) := by
  refine fn_def F hm c_law_amount (fun vs H Q E h => ?_) (fun _ _ _ _ _ _ us hl => match us, hl with | [_], _ => rfl) (fun cdv A outer s H vs Q E hr h => ?_)
  · obtain ⟨b, rfl, _⟩ := h
    rfl
  · obtain ⟨b, rfl, hb, k⟩ := h
    have nd := c_law_amount.nd
    refine ⟨_, (pss_cons (ps_set (i := 1) nd rfl (by first | exact Or.inl rfl | exact Or.inr rfl) (pe_fn F_law_draw (hr.mono (by decide)) (pa_cons (pv 0) (pa_cons pe_int pa_nil))))
      (pss_cons (ps_if (pt_cmpR op_eq (pv 1) pe_int (nomark _))
        (pss_one (ps_ret (pe_fn F_law_of (hr.mono (by decide)) (pa_cons (pv 0) (pa_cons (pe_lst (pa_cons (pe_tup (pa_cons pe_int (pa_cons pe_int pa_nil))) (pa_cons (pe_tup (pa_cons pe_int (pa_cons pe_int pa_nil))) (pa_cons (pe_tup (pa_cons pe_int (pa_cons pe_int pa_nil))) (pa_cons (pe_tup (pa_cons pe_int (pa_cons pe_int pa_nil))) (pa_cons (pe_tup (pa_cons pe_int (pa_cons pe_int pa_nil))) (pa_cons (pe_tup (pa_cons pe_int (pa_cons pe_int pa_nil))) (pa_cons (pe_tup (pa_cons pe_int (pa_cons pe_int pa_nil))) (pa_cons (pe_tup (pa_cons pe_int (pa_cons pe_int pa_nil))) (pa_cons (pe_tup (pa_cons pe_int (pa_cons pe_int pa_nil))) pa_nil)))))))))) pa_nil)))))
        pss_nil)
      (pss_cons (ps_if (pt_cmpR op_lt (pv 1) pe_int (nomark _))
        (pss_one (ps_ret (pe_fn F_law_pair (hr.mono (by decide)) (pa_cons (pe_fn F_law_draw (hr.mono (by decide)) (pa_cons (pv 0) (pa_cons pe_int pa_nil))) (pa_cons (pe_op op_add pe_int (pe_fn F_law_draw (hr.mono (by decide)) (pa_cons (pv 0) (pa_cons pe_int pa_nil)))) pa_nil)))))
        pss_nil)
      (pss_cons (ps_if (pt_cmpR op_eq (pv 1) pe_int (nomark _))
        (pss_one (ps_ret (pe_fn F_law_pair (hr.mono (by decide)) (pa_cons (pe_fn F_law_draw (hr.mono (by decide)) (pa_cons (pv 0) (pa_cons (pe_op op_pow pe_int pe_int) pa_nil))) (pa_cons (pe_op op_add pe_int (pe_fn F_law_draw (hr.mono (by decide)) (pa_cons (pv 0) (pa_cons (pe_op op_sub (pe_op op_pow pe_int pe_int) pe_int) pa_nil)))) pa_nil)))))
        pss_nil)
      (pss_cons (ps_if (pt_cmpR op_eq (pv 1) pe_int (nomark _))
        (pss_one (ps_ret (pe_fn F_law_pair (hr.mono (by decide)) (pa_cons (pe_fn F_law_great (hr.mono (by decide)) (pa_cons (pv 0) pa_nil)) (pa_cons (pe_op op_add pe_int (pe_fn F_law_draw (hr.mono (by decide)) (pa_cons (pv 0) (pa_cons pe_int pa_nil)))) pa_nil)))))
        pss_nil)
      (pss_one (ps_ret (pe_fn F_law_pair (hr.mono (by decide)) (pa_cons (pe_fn F_law_great (hr.mono (by decide)) (pa_cons (pv 0) pa_nil)) (pa_cons (pe_callB (call_max2 rfl) (by rfl) T.max (by decide +kernel) (pa_cons pe_int (pa_cons (pe_fn F_law_great (hr.mono (by decide)) (pa_cons (pv 0) pa_nil)) pa_nil))) pa_nil)))))))))), ?_⟩
    show (_ : TS) _ [some _, none] _
    try dsimp only [cxOf, Cx.nox]
    have pk : ∀ (x y : Int) (H' : Hp), 0 ≤ x → x < 2 ^ 114 → 0 < y → y < 2 ^ 114 → BagAt K H' b → Ext [b.a] H H' → spPair K [.int x, .int y] H' Q E0 := fun x y H' x0 x1 y0 y1 b' e' => by
      have ex : x = ((x.toNat : Nat) : Int) := by omega
      have ey : y = ((y.toNat : Nat) : Int) := by omega
      have hx : x.toNat < 2 ^ 114 := by
        have : ((2 ^ 114 : Nat) : Int) = 2 ^ 114 := by norm_cast
        omega
      have hy : y.toNat < 2 ^ 114 := by
        have : ((2 ^ 114 : Nat) : Int) = 2 ^ 114 := by norm_cast
        omega
      rw [ex, ey]
      refine ⟨x.toNat, y.toNat, rfl, by omega, Nat.lt_of_lt_of_le hx (Nat.pow_le_pow_right (by decide) (by decide)), Nat.lt_of_lt_of_le hy (Nat.pow_le_pow_right (by decide) (by decide)), fun v H2 e a => ?_⟩
      obtain ⟨z1, z2⟩ := pair_am hx (by omega) hy
      exact k v _ H2 a z2 z1 (b'.x0 e) (e'.trans e.of0)
    walk_at "go"
    refine ⟨b, _, rfl, by decide, by decide, hb, fun x1 H1 l1 u1 b1 n1 => ?_⟩
    walk_at "go"
    refine r_dec (fun h0 => ?_) (fun h0 => ?_)
    · walk_at "go"
      refine of_am (qs := nine) (by walk_at "bag") lstS (BagAt.ne' (K := K) (by assumption) (by walk_at "bag")) ?_ (by decide) (by decide) fun v q H' hq hm hb' e => ?_
      · unfold nine
        refine Ams.cons (am_lit _ _ (by walk_at "sq")) (Ams.cons (am_lit _ _ (by walk_at "sq")) (Ams.cons (am_lit _ _ (by walk_at "sq")) (Ams.cons (am_lit _ _ (by walk_at "sq")) (Ams.cons (am_lit _ _ (by walk_at "sq")) (Ams.cons (am_lit _ _ (by walk_at "sq")) (Ams.cons (am_lit _ _ (by walk_at "sq")) (Ams.cons (am_lit _ _ (by walk_at "sq")) (Ams.cons (am_lit _ _ (by walk_at "sq")) Ams.nil))))))))
      · refine k v q H' hm (nine_all q hq).1 (nine_all q hq).2 hb' (Ext.trans ?_ e)
        walk_at "ext"
    · walk_at "go"
      refine r_dec (fun h5 => ?_) (fun h5 => ?_)
      · walk_at "go"
        refine ⟨b, _, rfl, by decide, by decide, b1, fun x2 H2 l2 u2 b2 n2 => ?_⟩
        walk_at "go"
        refine ⟨b, _, rfl, by decide, by decide, b2, fun x3 H3 l3 u3 b3 n3 => ?_⟩
        walk_at "go"
        exact pk _ _ _ l2 (Int.lt_trans u2 (by decide)) (by omega) (Int.lt_trans (by omega : 1 + x3 < 14) (by decide)) b3 ((n1.trans n2).trans n3)
      · walk_at "go"
        refine r_dec (fun h5 => ?_) (fun h5 => ?_)
        · walk_at "go"
          refine ⟨b, _, rfl, by decide, by decide, b1, fun x2 H2 l2 u2 b2 n2 => ?_⟩
          walk_at "go"
          refine ⟨b, _, rfl, by decide, by decide, b2, fun x3 H3 l3 u3 b3 n3 => ?_⟩
          walk_at "go"
          rw [e9] at u2 u3
          exact pk _ _ _ l2 (Int.lt_trans u2 (by decide)) (by omega) (Int.lt_trans (by omega : 1 + x3 < 10000000000) (by decide)) b3 ((n1.trans n2).trans n3)
        · walk_at "go"
          refine r_dec (fun h5 => ?_) (fun h5 => ?_)
          · walk_at "go"
            refine ⟨b, rfl, b1, fun x2 H2 l2 u2 b2 n2 => ?_⟩
            walk_at "go"
            refine ⟨b, _, rfl, by decide, by decide, b2, fun x3 H3 l3 u3 b3 n3 => ?_⟩
            walk_at "go"
            exact pk _ _ _ l2 u2 (by omega) (Int.lt_trans (by omega : 1 + x3 < 14) (by decide)) b3 ((n1.trans n2).trans n3)
          · walk_at "go"
            refine ⟨b, rfl, b1, fun x2 H2 l2 u2 b2 n2 => ?_⟩
            walk_at "go"
            refine ⟨b, rfl, b2, fun x3 H3 l3 u3 b3 n3 => ?_⟩
            refine ⟨_, _, rfl, ?_⟩
            walk_at "go"
            exact pk _ _ _ l2 u2 (by split <;> omega) (by split <;> omega) b3 ((n1.trans n2).trans n3)
end
end Yk

set_option maxHeartbeats 4000000
namespace Yk
open PySem PySem.Spec PyProof.Rows L2

section
variable {P : Program} {w : World} {K : PySem.W.Frag} {mg : Str → Option Value} {base : Heap} {f : Addr} {fd : FuncData}
theorem perm_erase : ∀ {xs : List V} {i : Nat} (h : i < xs.length), (xs[i] :: xs.eraseIdx i).Perm xs
  | a :: r, 0, _ => List.Perm.refl _
  | a :: r, i + 1, h => ((List.Perm.swap a _ _)).trans ((perm_erase (xs := r) (i := i) (by simpa using h)).cons a)
/-- a new list with the same things -/
def spMixed (K : PySem.W.Frag) : Sp := fun vs H Q _ => ∃ (b : Bag) (l : Addr) (xs : List V), vs = [.ref b.a, .ref l] ∧ BagAt K H b ∧ SqL K H l xs ∧ b.a ≠ l ∧ xs.length ≤ 4000 ∧ ∀ (p : Addr) (ys : List V) H', ys.Perm xs → H p = none → H' p = some (.lst ys) → BagAt K H' b → Ext [b.a] H H' → Q (.ref p) H'
end
end Yk

set_option maxHeartbeats 4000000
namespace Yk
open PySem PySem.Spec PyProof.Rows L2

section
variable {P : Program} {w : World} {K : PySem.W.Frag} {mg : Str → Option Value} {base : Heap} {f : Addr} {fd : FuncData}
/-- two rows of one length, from three to six -/
theorem row_cases {C : List V → List Rat → Prop} {xs : List V} {qs : List Rat} (hl : xs.length = qs.length) (h3 : 3 ≤ qs.length) (h6 : qs.length ≤ 6)
    (c3 : ∀ v0 v1 v2 q0 q1 q2, C [v0, v1, v2] [q0, q1, q2]) (c4 : ∀ v0 v1 v2 v3 q0 q1 q2 q3, C [v0, v1, v2, v3] [q0, q1, q2, q3])
    (c5 : ∀ v0 v1 v2 v3 v4 q0 q1 q2 q3 q4, C [v0, v1, v2, v3, v4] [q0, q1, q2, q3, q4]) (c6 : ∀ v0 v1 v2 v3 v4 v5 q0 q1 q2 q3 q4 q5, C [v0, v1, v2, v3, v4, v5] [q0, q1, q2, q3, q4, q5]) : C xs qs := by
  match xs, qs, hl, h3, h6 with
  | [], qs, h, h3, _ => simp at h; omega
  | [_], qs, h, h3, _ => simp at h; omega
  | [_, _], qs, h, h3, _ => simp at h; omega
  | [v0, v1, v2], [q0, q1, q2], _, _, _ => exact c3 ..
  | [v0, v1, v2, v3], [q0, q1, q2, q3], _, _, _ => exact c4 ..
  | [v0, v1, v2, v3, v4], [q0, q1, q2, q3, q4], _, _, _ => exact c5 ..
  | [v0, v1, v2, v3, v4, v5], [q0, q1, q2, q3, q4, q5], _, _, _ => exact c6 ..
  | _ :: _ :: _ :: _ :: _ :: _ :: _ :: _, _ :: _ :: _ :: _ :: _ :: _ :: _ :: _, _, _, h => simp at h; try omega
def spSums (K : PySem.W.Frag) : Sp := fun vs H Q _ => ∃ r xs qs, vs = [V.ref r] ∧ SqL K H r xs ∧ Ams K H xs qs ∧ 3 ≤ qs.length ∧ qs.length ≤ 6 ∧ (∀ q ∈ qs, Sz 114 q) ∧ RetAm K H Q (sumQ qs)
def spEnds (K : PySem.W.Frag) : Sp := fun vs H Q _ => ∃ r xs q0 qs, vs = [V.ref r] ∧ SqL K H r xs ∧ Ams K H xs (q0 :: qs) ∧ 3 ≤ (q0 :: qs).length ∧ (q0 :: qs).length ≤ 6 ∧ (∀ q ∈ q0 :: qs, Sz 114 q) ∧
  ∀ p v1 v2 H', H p = none → H' p = some (.lst [v1, v2]) → Am K H' v1 (minQ q0 qs) → Am K H' v2 (maxQ q0 qs) → Ext [] H H' → Q (.ref p) H'
def endsK (K : PySem.W.Frag) (H : Hp) (Q : VK) (qs : List Rat) : Prop := ∀ p v1 v2 H', H p = none → H' p = some (.lst [v1, v2]) → Am K H' v1 (minQ (qs.headD 0) qs.tail) → Am K H' v2 (maxQ (qs.headD 0) qs.tail) → Ext [] H H' → Q (.ref p) H'
end
end Yk

set_option maxHeartbeats 4000000
namespace Yk
open PySem PySem.Spec PyProof.Rows L2

section
variable {P : Program} {w : World} {K : PySem.W.Frag} {mg : Str → Option Value} {base : Heap} {f : Addr} {fd : FuncData}
/-! rows by their sizes, in any order -/
inductive Szs : Nat → List Rat → Prop where
  | nil : Szs 0 []
  | cons {m B : Nat} {q : Rat} {ps : List Rat} (h : Sz m q) (r : Szs B ps) : Szs (B + (m + 1)) (q :: ps)
theorem Szs.perm {l l' : List Rat} (p : l.Perm l') : ∀ {B : Nat}, Szs B l → Szs B l' := by
  induction p with
  | nil => exact fun h => h
  | cons x _ ih =>
    intro B h
    cases h with
    | cons h r => exact .cons h (ih r)
  | swap x y l =>
    intro B h
    cases h with
    | cons h r =>
      cases r with
      | cons h2 r =>
        rename_i m1 m2 B2
        have := Szs.cons h2 (Szs.cons h r)
        rw [show B2 + (m2 + 1) + (m1 + 1) = B2 + (m1 + 1) + (m2 + 1) by omega]
        exact this
  | trans _ _ ih1 ih2 => exact fun h => ih2 (ih1 h)
theorem Szs.all : ∀ {l : List Rat} {m : Nat}, (∀ q ∈ l, Sz m q) → Szs (l.length * (m + 1)) l
  | [], m, _ => by simpa using Szs.nil
  | q :: r, m, h => by
    have := Szs.cons (h q List.mem_cons_self) (Szs.all (l := r) (m := m) fun x hx => h x (List.mem_cons_of_mem _ hx))
    rw [List.length_cons, Nat.add_mul, Nat.one_mul]
    exact this
def opR (g : Rat → Rat → Rat) (z : Rat) (l : List Rat) : Rat := l.foldr g z
theorem opR_perm {g : Rat → Rat → Rat} {z : Rat} (hg : ∀ a b c, g a (g b c) = g b (g a c)) {l l' : List Rat} (p : l.Perm l') : opR g z l = opR g z l' := by
  induction p with
  | nil => rfl
  | cons x _ ih => exact congrArg (g x) ih
  | swap x y l => exact hg _ _ _
  | trans _ _ h1 h2 => exact h1.trans h2
theorem sumQ_R (l : List Rat) : sumQ l = opR (· + ·) 0 l := by
  have h : ∀ (l : List Rat) (z : Rat), l.foldl (· + ·) z = z + opR (· + ·) 0 l := by
    intro l
    induction l with
    | nil => intro z; show z = z + 0; rw [Rat.add_zero]
    | cons a r ih =>
      intro z
      show r.foldl (· + ·) (z + a) = z + (a + opR (· + ·) 0 r)
      rw [ih, Rat.add_assoc]
  unfold sumQ
  rw [h, Rat.zero_add]
theorem sumQ_perm {l l' : List Rat} (p : l.Perm l') : sumQ l = sumQ l' := by
  rw [sumQ_R, sumQ_R]
  exact opR_perm (fun a b c => by rw [← Rat.add_assoc, Rat.add_comm a b, Rat.add_assoc]) p
def prodQ (qs : List Rat) : Rat := qs.foldl (· * ·) 1
theorem prodQ_R (l : List Rat) : prodQ l = opR (· * ·) 1 l := by
  have h : ∀ (l : List Rat) (z : Rat), l.foldl (· * ·) z = z * opR (· * ·) 1 l := by
    intro l
    induction l with
    | nil => intro z; show z = z * 1; rw [Rat.mul_one]
    | cons a r ih =>
      intro z
      show r.foldl (· * ·) (z * a) = z * (a * opR (· * ·) 1 r)
      rw [ih, Rat.mul_assoc]
  unfold prodQ
  rw [h, Rat.one_mul]
theorem Ams.erase {H : Hp} {xs : List V} {qs : List Rat} (h : Ams K H xs qs) (i : Nat) : Ams K H (xs.eraseIdx i) (qs.eraseIdx i) := by
  refine ⟨by rw [List.length_eraseIdx, List.length_eraseIdx, h.1], fun j v q a b => ?_⟩
  rw [List.getElem?_eraseIdx] at a b
  split at a
  · rename_i hj
    rw [if_pos hj] at b
    exact h.2 j v q a b
  · rename_i hj
    rw [if_neg hj] at b
    exact h.2 (j + 1) v q a b
theorem Ams.app {H : Hp} {xs ys : List V} {qs rs : List Rat} (h : Ams K H xs qs) (r : Ams K H ys rs) : Ams K H (xs ++ ys) (qs ++ rs) := by
  refine ⟨by rw [List.length_append, List.length_append, h.1, r.1], fun j v q a b => ?_⟩
  by_cases hj : j < xs.length
  · rw [List.getElem?_append_left hj] at a
    rw [List.getElem?_append_left (by rw [← h.1]; exact hj)] at b
    exact h.2 j v q a b
  · rw [List.getElem?_append_right (by omega)] at a
    rw [List.getElem?_append_right (by rw [← h.1]; omega), ← h.1] at b
    exact r.2 _ v q a b
theorem Ams.take {H : Hp} {xs : List V} {qs : List Rat} (h : Ams K H xs qs) (n : Nat) : Ams K H (xs.take n) (qs.take n) := by
  refine ⟨by rw [List.length_take, List.length_take, h.1], fun j v q a b => ?_⟩
  rw [List.getElem?_take] at a b
  split at a
  · rename_i hj
    rw [if_pos hj] at b
    exact h.2 j v q a b
  · cases a
theorem Ams.drop {H : Hp} {xs : List V} {qs : List Rat} (h : Ams K H xs qs) (n : Nat) : Ams K H (xs.drop n) (qs.drop n) := by
  refine ⟨by rw [List.length_drop, List.length_drop, h.1], fun j v q a b => ?_⟩
  rw [List.getElem?_drop] at a b
  exact h.2 _ v q a b
theorem permR : ∀ {xs : List Rat} {i : Nat} (h : i < xs.length), (xs[i] :: xs.eraseIdx i).Perm xs
  | a :: r, 0, _ => List.Perm.refl _
  | a :: r, i + 1, h => ((List.Perm.swap a _ _)).trans ((permR (xs := r) (i := i) (by simpa using h)).cons a)
theorem permI (xs : List Rat) (z : Rat) (k : Nat) : (xs.take k ++ [z] ++ xs.drop k).Perm (z :: xs) := by
  have h : (xs.take k ++ z :: xs.drop k).Perm (z :: (xs.take k ++ xs.drop k)) := List.perm_middle
  rw [List.take_append_drop] at h
  rw [List.append_assoc]
  exact h
/-- a pair put together: its value, its size -/
structure Join (g : Rat → Rat → Rat) (z : Rat) : Prop where
  swap : ∀ a b c, g a (g b c) = g b (g a c)
  assoc : ∀ a b c, g (g a b) c = g a (g b c)
  one : ∀ a, g a z = a
  sz : ∀ {m n : Nat} {a b : Rat}, Sz m a → Sz n b → Sz (m + n + 1) (g a b)
theorem join_add : Join (· + ·) 0 := ⟨fun a b c => by show a + (b + c) = b + (a + c); rw [← Rat.add_assoc, Rat.add_comm a b, Rat.add_assoc], fun a b c => Rat.add_assoc a b c, fun a => Rat.add_zero a, sz_add⟩
theorem join_mul : Join (· * ·) 1 := ⟨fun a b c => by show a * (b * c) = b * (a * c); rw [← Rat.mul_assoc, Rat.mul_comm a b, Rat.mul_assoc], fun a b c => Rat.mul_assoc a b c, fun a => Rat.mul_one a, fun h1 h2 => (sz_mul h1 h2).mono (by omega)⟩
theorem Join.two {g : Rat → Rat → Rat} {z : Rat} (J : Join g z) (a b : Rat) (l : List Rat) : opR g z (a :: b :: l) = opR g z (g a b :: l) := (J.assoc a b _).symm
theorem Join.sz2 {g : Rat → Rat → Rat} {z : Rat} (J : Join g z) {a b : Rat} {l : List Rat} {B : Nat} (h : Szs B (a :: b :: l)) : Szs B (g a b :: l) := by
  cases h with
  | cons h1 r =>
    cases r with
    | cons h2 r =>
      rename_i m1 m2 B2
      have := Szs.cons (J.sz h1 h2) r
      rw [show B2 + (m2 + 1) + (m1 + 1) = B2 + (m1 + m2 + 1 + 1) by omega]
      exact this
theorem Szs.hd {B : Nat} {a : Rat} {l : List Rat} (h : Szs B (a :: l)) : Sz B a := by
  cases h with
  | cons h1 r => exact h1.mono (by omega)
theorem Szs.tl {B : Nat} {a : Rat} {l : List Rat} (h : Szs B (a :: l)) : ∃ B', B' ≤ B ∧ Szs B' l := by
  cases h with
  | cons h1 r => exact ⟨_, by omega, r⟩
def gop (c : Bool) : Rat → Rat → Rat := if c then (· + ·) else (· * ·)
def gun (c : Bool) : Rat := if c then 0 else 1
theorem join_of (c : Bool) : Join (gop c) (gun c) := by
  cases c
  · exact join_mul
  · exact join_add
def spGrouped (K : PySem.W.Frag) : Sp := fun vs H Q _ => ∃ (b : Bag) (r : Addr) (c : Bool) (xs : List V) (qs : List Rat), vs = [.ref b.a, .ref r, .bl c] ∧ BagAt K H b ∧ SqL K H r xs ∧ b.a ≠ r ∧ Ams K H xs qs ∧ 1 ≤ qs.length ∧ qs.length ≤ 6 ∧ (∀ q ∈ qs, Sz 114 q) ∧
  ∀ v H', Am K H' v (opR (gop c) (gun c) qs) → BagAt K H' b → Ext [b.a] H H' → Q v H'
end
end Yk

set_option maxHeartbeats 4000000
namespace Yk
open PySem PySem.Spec PyProof.Rows L2

/-- the same data, so deep -/
inductive Eqd (K : PySem.W.Frag) (H : Hp) : Nat → V → V → Prop where
  | non (n : Nat) : Eqd K H n .non .non
  | bl (n : Nat) (b : Bool) : Eqd K H n (.bl b) (.bl b)
  | int (n : Nat) (i : Int) : Eqd K H n (.int i) (.int i)
  | str (n : Nat) (z : Str) : Eqd K H n (.str z) (.str z)
  | tup {n : Nat} {a b : Addr} {xs ys : List V} (ha : SqT K H a xs) (hb : SqT K H b ys) (hl : xs.length = ys.length) (h4 : xs.length ≤ 4000) (h : ∀ (i : Nat) (x y : V), xs[i]? = some x → ys[i]? = some y → Eqd K H n x y) : Eqd K H (n + 1) (.ref a) (.ref b)
  | lst {n : Nat} {a b : Addr} {xs ys : List V} (ha : SqL K H a xs) (hb : SqL K H b ys) (hl : xs.length = ys.length) (h4 : xs.length ≤ 4000) (h : ∀ (i : Nat) (x y : V), xs[i]? = some x → ys[i]? = some y → Eqd K H n x y) : Eqd K H (n + 1) (.ref a) (.ref b)
theorem Eqd.x0 {K : PySem.W.Frag} {H H1 : Hp} (e : Ext [] H H1) {n : Nat} {v w : V} (h : Eqd K H n v w) : Eqd K H1 n v w := by
  induction h with
  | non n => exact .non n
  | bl n b => exact .bl n b
  | int n i => exact .int n i
  | str n z => exact .str n z
  | tup ha hb hl h4 _ ih => exact .tup (tup0 e ha) (tup0 e hb) hl h4 ih
  | lst ha hb hl h4 _ ih => exact .lst (lst0 e ha) (lst0 e hb) hl h4 ih
theorem Am.eqd {K : PySem.W.Frag} {H : Hp} {v w : V} {q : Rat} (n : Nat) (h1 : Am K H v q) (h2 : Am K H w q) : Eqd K H (n + 1) v w := by
  obtain ⟨a, rfl, h1⟩ := h1
  obtain ⟨b, rfl, h2⟩ := h2
  refine .tup h1 h2 rfl (by simp) fun i x y hx hy => ?_
  rw [hx] at hy
  cases hy
  match i, hx with
  | 0, hx => cases hx; exact .int _ _
  | 1, hx => cases hx; exact .int _ _
  | i + 2, hx => cases hx
def spLike (K : PySem.W.Frag) : Nat → Sp
  | 0 => fun _ _ _ _ => False
  | n + 1 => fun vs H Q _ => ∃ v1 v2, vs = [v1, v2] ∧ Eqd K H n v1 v2 ∧ ∀ H', Ext [] H H' → Q (.bl true) H'
section
variable {P : Program} {w : World} {K : PySem.W.Frag} {mg : Str → Option Value} {base : Heap} {f : Addr} {fd : FuncData}
abbrev s_law_like : Stmt := top 33
theorem c_law_like : FnScope ["_law_told_here", "_law_due", "_law_a", "_law_b"] ["_law_told_here", "_law_due"] (defScope s_law_like) := ⟨rfl, rfl, rfl, by decide +kernel, rfl, by decide +kernel, by decide +kernel⟩
theorem f_law_like (F : FunD K "_law_like" "_law_like" (defArgs s_law_like) (defBody s_law_like) (defScope s_law_like) [] [] f fd) (hm : mg "_law_like" = some (.ref f)) (T : Bt mg) (n : Nat) (F_law_like : Fn P w K mg base n "_law_like" (spLike K n)) : Fn P w K mg base (n+1) "_law_like" (spLike K (n + 1)) := by
  refine fn_def F hm c_law_like (fun vs H Q E h => ?_) (fun _ _ _ _ _ _ us hl => match us, hl with | [_, _], _ => rfl) (fun cdv A outer s H vs Q E hr h => ?_)
  · obtain ⟨v1, v2, rfl, _⟩ := h
    rfl
  · obtain ⟨v1, v2, rfl, he, k⟩ := h
    have nd := c_law_like.nd
    refine ⟨_, (pss_cons (ps_if (pt_val (pe_callB call_isiT (by rfl) T.isinstance (by decide +kernel) (pa_cons (pv 1) (pa_cons (pe_tup (pa_cons (pe_bltn (v := .ty "list") (by rfl) T.list (by decide +kernel) rfl) (pa_cons (pe_bltn (v := .ty "tuple") (by rfl) T.tuple (by decide +kernel) rfl) pa_nil))) pa_nil))))
        (pss_cons (ps_if (PW.pt (pw_or (pt_cmpR op_ne (pe_callB call_isi (by rfl) T.isinstance (by decide +kernel) (pa_cons (pv 0) (pa_cons (pe_bltn (v := .ty "list") (by rfl) T.list (by decide +kernel) rfl) pa_nil))) (pe_callB call_isi (by rfl) T.isinstance (by decide +kernel) (pa_cons (pv 1) (pa_cons (pe_bltn (v := .ty "list") (by rfl) T.list (by decide +kernel) rfl) pa_nil))) (nomark _)) (pw_or1 (pt_cmpR op_ne (pe_callB call_isi (by rfl) T.isinstance (by decide +kernel) (pa_cons (pv 0) (pa_cons (pe_bltn (v := .ty "tuple") (by rfl) T.tuple (by decide +kernel) rfl) pa_nil))) (pe_callB call_isi (by rfl) T.isinstance (by decide +kernel) (pa_cons (pv 1) (pa_cons (pe_bltn (v := .ty "tuple") (by rfl) T.tuple (by decide +kernel) rfl) pa_nil))) (nomark _)))))
          (pss_one (ps_ret pe_bl))
          pss_nil)
        (pss_one (ps_ret (pe_and (pe_cmpR op_eq (pe_callB cr_len (by rfl) T.len (by decide +kernel) (pa_cons (pv 0) pa_nil)) (pe_callB cr_len (by rfl) T.len (by decide +kernel) (pa_cons (pv 1) pa_nil)) (nomark _)) (pe_one (pe_callB (cr_all rfl) (by rfl) T.all (by decide +kernel) (pa_cons (pe_lc (own := [("_law_a", 2), ("_law_b", 3)])  rfl nd (RZ.pi_zipA (by rfl) T.zip (pa_cons (pv 0) (pa_cons (pv 1) pa_nil))) (blkOk_by (N := ["_law_told_here", "_law_due", "_law_a", "_law_b"]) (sc := defScope s_law_like) (by decide +kernel)) (fun _ _ _ _ _ => (pg_tup (n := 2) rfl (pgs_cons (pg_name (i := 2) nd rfl (Or.inl rfl)) (pgs_cons (pg_name (i := 3) nd rfl (Or.inl rfl)) pgs_nil)) : PG _ _ (gTup K 2 _))) (fun _ _ _ _ _ => pts_nil) (fun _ _ _ _ _ => (pe_fn F_law_like (hr.mono (Nat.le_refl _)) (pa_cons (pv 2) (pa_cons (pv 3) pa_nil))))) pa_nil)))))))
        pss_nil)
      (pss_cons (ps_if (PW.pt (pw_or (pt_cmpR op_isN (pv 1) pe_non (nomark _)) (pw_or1 (pt_cmpR op_isN (pv 0) pe_non (nomark _)))))
        (pss_one (ps_ret (pe_and (pe_cmpR op_isN (pv 1) pe_non (nomark _)) (pe_one (pe_cmpR op_isN (pv 0) pe_non (nomark _))))))
        pss_nil)
      (pss_cons (ps_if (PW.pt (pw_or (pt_val (pe_callB call_isiT (by rfl) T.isinstance (by decide +kernel) (pa_cons (pv 0) (pa_cons (pe_tup (pa_cons (pe_bltn (v := .ty "list") (by rfl) T.list (by decide +kernel) rfl) (pa_cons (pe_bltn (v := .ty "tuple") (by rfl) T.tuple (by decide +kernel) rfl) pa_nil))) pa_nil)))) (pw_or1 (pt_cmpR op_ne (pe_callB call_isi (by rfl) T.isinstance (by decide +kernel) (pa_cons (pv 0) (pa_cons (pe_bltn (v := .ty "bool") (by rfl) T.bool (by decide +kernel) rfl) pa_nil))) (pe_callB call_isi (by rfl) T.isinstance (by decide +kernel) (pa_cons (pv 1) (pa_cons (pe_bltn (v := .ty "bool") (by rfl) T.bool (by decide +kernel) rfl) pa_nil))) (nomark _)))))
        (pss_one (ps_ret pe_bl))
        pss_nil)
      (pss_cons (ps_if (PW.pt (pw_or (pt_cmpR op_ne (pe_callB call_isi (by rfl) T.isinstance (by decide +kernel) (pa_cons (pv 0) (pa_cons (pe_bltn (v := .ty "str") (by rfl) T.str (by decide +kernel) rfl) pa_nil))) (pe_callB call_isi (by rfl) T.isinstance (by decide +kernel) (pa_cons (pv 1) (pa_cons (pe_bltn (v := .ty "str") (by rfl) T.str (by decide +kernel) rfl) pa_nil))) (nomark _)) (pw_or1 (pt_cmpR op_ne (pe_callB call_isi (by rfl) T.isinstance (by decide +kernel) (pa_cons (pv 0) (pa_cons (pe_bltn (v := .ty "int") (by rfl) T.int (by decide +kernel) rfl) pa_nil))) (pe_callB call_isi (by rfl) T.isinstance (by decide +kernel) (pa_cons (pv 1) (pa_cons (pe_bltn (v := .ty "int") (by rfl) T.int (by decide +kernel) rfl) pa_nil))) (nomark _)))))
        (pss_one (ps_ret pe_bl))
        pss_nil)
      (pss_one (ps_ret (pe_cmpR op_eq (pv 0) (pv 1) (nomark _)))))))), ?_⟩
    show (_ : TS) _ [some _, some _, none, none] _
    try dsimp only [cxOf, Cx.nox]
    cases he with
    | non n =>
      walk_at "run"
      exact k _ (by walk_at "ext")
    | bl n b =>
      walk_at "run"
      rw [decide_eq_true rfl]
      exact k _ (by walk_at "ext")
    | int n i =>
      walk_at "run"
      rw [decide_eq_true rfl]
      exact k _ (by walk_at "ext")
    | str n z =>
      walk_at "run"
      rw [decide_eq_true rfl]
      exact k _ (by walk_at "ext")
    | @tup n a b xs ys ha hb hl h4 h =>
      walk_at "run"
      refine r_true (len_is (by rw [hl])) ?_
      walk_at "run"
      refine ⟨a, b, xs, ys, rfl, .inr ⟨by walk_at "sq", by walk_at "sq", fun D hD => ?_⟩⟩
      generalize hH : upd H _ _ = H0 at *
      have e0 : Ext [] H H0 := by
        rw [← hH]
        walk_at "ext"
      refine r_lcZT hl (fun i H1 => Ext [] H0 H1 ∧ H1 D = some (.lst ((List.replicate i true).map V.bl))) ⟨Ext.refl.new hD, upd_same⟩ (fun i H1 p => ⟨tup0 (e0.trans p.1) ha, tup0 (e0.trans p.1) hb⟩) ?_ ?_
      · rintro i x y T H1 hx hy ⟨e1, hD1⟩ hT
        walk_at "run"
        refine ⟨rfl, ?_⟩
        walk_at "run"
        have hi : i < xs.length := (List.getElem?_eq_some_iff.mp hx).1
        have e2 : Ext [] H0 (upd H1 T (.tup [x, y])) := e1.new hT
        refine ⟨x, y, rfl, (h i x y hx hy).x0 (e0.trans e2), fun H2 e3 => ?_⟩
        have hD2 : H2 D = some (.lst ((List.replicate i true).map V.bl)) := e3 _ _ (by rw [upd_ne (ne_of_none hD1 hT)]; exact hD1) fun z => nomatch z
        refine ⟨_, hD2, ?_, (e2.trans e3).own hD, ?_⟩
        · rw [List.length_map, List.length_replicate]
          exact Nat.lt_of_le_of_lt (by omega : i ≤ 4000) (by decide)
        · rw [List.replicate_succ', List.map_append]
          exact upd_same
      · rintro H1 ⟨e1, hD1⟩
        walk_at "run"
        refine r_all (bs := List.replicate xs.length true) (.inl (.inl hD1)) ?_
        rw [show (List.replicate xs.length true).all id = true by simp]
        exact k _ (e0.trans e1)
    | @lst n a b xs ys ha hb hl h4 h =>
      walk_at "run"
      refine r_true (len_is (by rw [hl])) ?_
      walk_at "run"
      refine ⟨a, b, xs, ys, rfl, .inl ⟨by walk_at "sq", by walk_at "sq", fun D hD => ?_⟩⟩
      generalize hH : upd H _ _ = H0 at *
      have e0 : Ext [] H H0 := by
        rw [← hH]
        walk_at "ext"
      refine r_lcZL hl (fun i H1 => Ext [] H0 H1 ∧ H1 D = some (.lst ((List.replicate i true).map V.bl))) ⟨Ext.refl.new hD, upd_same⟩ (fun i H1 p => ⟨lst0 (e0.trans p.1) ha, lst0 (e0.trans p.1) hb⟩) ?_ ?_
      · rintro i x y T H1 hx hy ⟨e1, hD1⟩ hT
        walk_at "run"
        refine ⟨rfl, ?_⟩
        walk_at "run"
        have hi : i < xs.length := (List.getElem?_eq_some_iff.mp hx).1
        have e2 : Ext [] H0 (upd H1 T (.tup [x, y])) := e1.new hT
        refine ⟨x, y, rfl, (h i x y hx hy).x0 (e0.trans e2), fun H2 e3 => ?_⟩
        have hD2 : H2 D = some (.lst ((List.replicate i true).map V.bl)) := e3 _ _ (by rw [upd_ne (ne_of_none hD1 hT)]; exact hD1) fun z => nomatch z
        refine ⟨_, hD2, ?_, (e2.trans e3).own hD, ?_⟩
        · rw [List.length_map, List.length_replicate]
          exact Nat.lt_of_le_of_lt (by omega : i ≤ 4000) (by decide)
        · rw [List.replicate_succ', List.map_append]
          exact upd_same
      · rintro H1 ⟨e1, hD1⟩
        walk_at "run"
        refine r_all (bs := List.replicate xs.length true) (.inl (.inl hD1)) ?_
        rw [show (List.replicate xs.length true).all id = true by simp]
        exact k _ (e0.trans e1)
end
end Yk

set_option maxHeartbeats 4000000
namespace Yk
open PySem PySem.Spec PyProof.Rows L2 TL

section
variable {P : Program} {w : World} {K : PySem.W.Frag} {mg : Str → Option Value} {base : Heap} {f : Addr} {fd : FuncData}
def spNumText (K : PySem.W.Frag) : Sp := fun vs H Q _ => ∃ n : Nat, vs = [.int (n : Int)] ∧ n < 2 ^ 1900 ∧ ∀ H', Ext [] H H' → Q (.str (nt n)) H'
abbrev s_number_text : Stmt := top 3
theorem c_number_text : FnScope ["number", "pieces", "rest", "piece"] ["number"] (defScope s_number_text) := ⟨rfl, rfl, rfl, by decide +kernel, rfl, by decide +kernel, by decide +kernel⟩
theorem f_number_text (F : FunD K "number_text" "number_text" (defArgs s_number_text) (defBody s_number_text) (defScope s_number_text) [] [] f fd) (hm : mg "number_text" = some (.ref f)) (T : Bt mg) : Fn P w K mg base 1 "number_text" (spNumText K) := by
  refine fn_def F hm c_number_text (fun vs H Q E h => ?_) (fun _ _ _ _ _ _ us hl => match us, hl with | [_], _ => rfl) (fun cdv A outer s H vs Q E hr h => ?_)
  · obtain ⟨n, rfl, _⟩ := h
    rfl
  · obtain ⟨n, rfl, hn, k⟩ := h
    have nd := c_number_text.nd
    refine ⟨_, (pss_cons (ps_set (i := 1) nd rfl (by first | exact Or.inl rfl | exact Or.inr rfl) (pe_lst pa_nil))
      (pss_cons (ps_set (i := 2) nd rfl (by first | exact Or.inl rfl | exact Or.inr rfl) (pv 0))
      (pss_cons (ps_while PassesOwn.never (pt_cmpR op_ge (pv 2) (pe_op op_pow pe_int pe_int) (nomark _))
        (pss_cons (ps_asg (pe_callB call_divmodW (by rfl) T.divmod (by decide +kernel) (pa_cons (pv 2) (pa_cons (pe_op op_pow pe_int pe_int) pa_nil))) (pg_tup rfl (pgs_cons (pg_name (i := 2) nd rfl (by first | exact Or.inl rfl | exact Or.inr rfl)) (pgs_cons (pg_name (i := 3) nd rfl (by first | exact Or.inl rfl | exact Or.inr rfl)) pgs_nil))))
        (pss_one (ps_expr (pe_bm PySem.F.plainAttrs_list PySem.F.slot_list_append PySem.F.type_list_append mt_append (pv 1) (pa_cons (pe_bm PySem.F.plainAttrs_str PySem.F.slot_str_zfill PySem.F.type_str_zfill mt_zfill (pe_callTy call_str_int (by rfl) T.str (by decide +kernel) (pa_cons (pv 3) pa_nil)) (pa_cons pe_int pa_nil)) pa_nil))))))
      (pss_cons (ps_expr (pe_bm PySem.F.plainAttrs_list PySem.F.slot_list_append PySem.F.type_list_append mt_append (pv 1) (pa_cons (pe_callTy call_str_int (by rfl) T.str (by decide +kernel) (pa_cons (pv 2) pa_nil)) pa_nil)))
      (pss_one (ps_ret (pe_join pe_str (pe_revL (pv 1))))))))), ?_⟩
    show (_ : TS) _ [some _, none, none, none] _
    try dsimp only [cxOf, Cx.nox]
    have e60 : (10 : Int) ^ Int.toNat 60 = (((10 : Nat) ^ (59 + 1) : Nat) : Int) := by decide +kernel
    have dB : ∀ i : Int, CDivP i ((10 : Int) ^ Int.toNat 60) := fun i => ⟨by decide +kernel, PyProof.noPylong_of_log2 (by decide +kernel)⟩
    walk_at "go"
    rename_i p hp
    refine r_while (fun m σ H1 => ∃ (r : Nat) (ps : List Str) (u : Option V), r = m ∧ σ = [some (.int (n : Int)), some (.ref p), some (.int (r : Int)), u] ∧ H1 p = some (.lst (ps.map V.str)) ∧ Ext [] H H1 ∧ r ≤ n ∧ ps.length + (numL r).length ≤ (numL n).length ∧ numL n = numL r ++ (ps.reverse.map tl).flatten)
      n ⟨n, [], none, rfl, rfl, upd_same, Ext.refl.new hp, Nat.le_refl _, by simp, by simp⟩ ?_
    rintro m σ H1 ⟨r, ps, u, rfl, rfl, hl, e1, hr, hlen, hnum⟩
    have ln : (numL n).length ≤ 1900 := numL_le (by decide) (bits_lt hn)
    walk_at "go"
    refine r_dec (fun hge => ?_) (fun hlt => ?_)
    · have hge' : (10 : Nat) ^ (59 + 1) ≤ r := by rw [e60] at hge; exact Int.ofNat_le.mp hge
      have hB : 0 < (10 : Nat) ^ (59 + 1) := Nat.pow_pos (by decide)
      have hq : 0 < r / (10 : Nat) ^ (59 + 1) := Nat.div_pos hge' hB
      have hm : r % (10 : Nat) ^ (59 + 1) < (10 : Nat) ^ (59 + 1) := Nat.mod_lt _ hB
      have hs := numL_split 59 _ _ hq hm
      rw [Nat.div_add_mod'] at hs
      have c1 : (r : Int) / (10 : Int) ^ Int.toNat 60 = ((r / (10 : Nat) ^ (59 + 1) : Nat) : Int) := by rw [e60, Int.natCast_ediv]
      have c2 : (r : Int) % (10 : Int) ^ Int.toNat 60 = ((r % (10 : Nat) ^ (59 + 1) : Nat) : Int) := by rw [e60, Int.natCast_emod]
      refine ⟨fun σ' H' => ∃ (ps' : List Str) (u : Option V), σ' = [some (.int (n : Int)), some (.ref p), some (.int ((r / (10 : Nat) ^ (59 + 1) : Nat) : Int)), u] ∧ H' p = some (.lst (ps'.map V.str)) ∧ Ext [] H H' ∧ ps' = ps ++ [Txt.zfill (nt (r % (10 : Nat) ^ (59 + 1))) ((60 : Nat) : Int)], ?_, ?_⟩
      · rintro σ' H' ⟨ps', u, rfl, h1, h2, rfl⟩
        refine ⟨r / (10 : Nat) ^ (59 + 1), Nat.div_lt_self (by omega) (by decide +kernel), _, _, _, rfl, rfl, h1, h2, Nat.le_trans (Nat.div_le_self _ _) hr, ?_, ?_⟩
        · have h3 : (numL r).length = (numL (r / (10 : Nat) ^ (59 + 1))).length + (padL (59 + 1) (r % (10 : Nat) ^ (59 + 1))).length := by rw [← List.length_append, ← hs]
          have h4 : 0 < (padL (59 + 1) (r % (10 : Nat) ^ (59 + 1))).length := by
            unfold padL
            rw [List.length_append]
            have := List.length_pos_iff.mpr (numL_ne (r % (10 : Nat) ^ (59 + 1)))
            omega
          rw [List.length_append]
          show ps.length + 1 + _ ≤ _
          omega
        · rw [hnum, hs, List.reverse_append, List.map_append, List.flatten_append, ← List.append_assoc]
          congr 1
          congr 1
          show padL (59 + 1) (r % (10 : Nat) ^ (59 + 1)) = tl (Txt.zfill (nt (r % (10 : Nat) ^ (59 + 1))) ((60 : Nat) : Int)) ++ []
          rw [List.append_nil, zfill_tl (numL_le (by decide) hm)]
      · walk_at "go"
        refine ⟨dB _, fun t ht => ?_⟩
        dsimp only
        rw [c1, c2]
        have hl2 : upd H1 t (.tup [.int ((r / (10 : Nat) ^ (59 + 1) : Nat) : Int), .int ((r % (10 : Nat) ^ (59 + 1) : Nat) : Int)]) p = some (.lst (ps.map V.str)) := by rw [upd_ne (ne_of_none hl ht)]; exact hl
        walk_at "go"
        refine ⟨.inl ⟨rfl, _, .inl (.inl hl2)⟩, ?_⟩
        walk_at "go"
        refine ⟨_, rfl, ?_, ?_⟩
        · show (r % (10 : Nat) ^ (59 + 1)).log2 < 1920
          refine Nat.lt_of_lt_of_le (log_lt (b := 200) (by decide) (Nat.lt_of_lt_of_le hm (by decide +kernel))) (by decide)
        refine ⟨rfl, ?_⟩
        walk_at "go"
        refine ⟨_, _, rfl, rfl, by decide, ?_⟩
        walk_at "go"
        refine ⟨p, _, _, rfl, rfl, hl2, ?_, ?_⟩
        · rw [List.length_map]
          exact Nat.lt_of_le_of_lt (by omega : ps.length ≤ 1900) (by decide)
        · refine ⟨_, _, rfl, ?_, (e1.new ht).own hp, rfl⟩
          rw [List.map_append]
          exact upd_same
    · have hlt' : r < (10 : Nat) ^ (59 + 1) := by rw [e60] at hlt; exact Int.ofNat_lt.mp (Int.not_le.mp hlt)
      walk_at "go"
      refine ⟨.inl ⟨rfl, _, .inl (.inl hl)⟩, ?_⟩
      walk_at "go"
      refine ⟨_, rfl, ?_, ?_⟩
      · show r.log2 < 1920
        refine Nat.lt_of_lt_of_le (log_lt (b := 200) (by decide) (Nat.lt_of_lt_of_le hlt' (by decide +kernel))) (by decide)
      walk_at "go"
      refine ⟨p, _, _, rfl, rfl, hl, ?_, ?_⟩
      · rw [List.length_map]
        exact Nat.lt_of_le_of_lt (by omega : ps.length ≤ 1900) (by decide)
      walk_at "go"
      refine ⟨⟨_, rfl⟩, _, rfl, p, _, rfl, lstS, fun d hd => ?_⟩
      have er : (ps.map V.str ++ [V.str (nt r)]).reverse = (nt r :: ps.reverse).map V.str := by
        rw [List.reverse_append, ← List.map_reverse]
        rfl
      have ex := (e1.own (o := .lst (ps.map V.str ++ [V.str (nt r)])) hp).new (o := .lst (ps.map V.str ++ [V.str (nt r)]).reverse) hd
      refine ⟨_, d, nt r :: ps.reverse, rfl, rfl, .inl ?_, ?_, ?_⟩
      · refine .inl (.inl ?_)
        rw [← er]
        exact upd_same
      · rw [len_sum]
        have h5 : ((nt r :: ps.reverse).map tl).flatten = numL n := by rw [hnum, ← tl_nt]; rfl
        rw [h5, show (Str.ofString "").length = 0 by decide +kernel]
        omega
      · have h6 : Txt.join (Str.ofString "") (nt r :: ps.reverse) = nt n := by
          refine str_eq ?_
          rw [show Str.ofString "" = Str.empty by decide +kernel, tl_join0, tl_nt, hnum, ← tl_nt]
          rfl
        rw [h6]
        exact k _ ex
def spIsNum (K : PySem.W.Frag) : Sp := fun vs H Q _ => ∃ n : Int, vs = [.int n] ∧ Q (.bl true) H
def spIsAm (K : PySem.W.Frag) : Sp := fun vs H Q _ => ∃ (v : V) (q : Rat), vs = [v] ∧ Am K H v q ∧ 0 ≤ q ∧ Q (.bl true) H
end
end Yk

set_option maxHeartbeats 4000000
namespace Yk
open PySem PySem.Spec PyProof.Rows L2 TL

section
variable {σ : L2.St} {H : Hp} {Q : VK} {te : TE}
theorem r_js {t : TE} {ts : List TE} {acc : Str} {R : Str → Hp → Prop} (h : t σ H fun x H1 => ∃ y : Str, x = .str y ∧ (acc ++ y).length ≤ sizeLine ∧ tJs ts (acc ++ y) σ H1 R) : tJs (t :: ts) acc σ H R := h
theorem r_M1 {r : V → List V → Hp → VK → Prop} {to : TE} (h : to σ H fun x H1 => (∃ a, x = .str a) ∧ te σ H1 fun y H2 => r x [y] H2 Q) : tM1 r to te σ H Q := h
theorem r_jsN {acc : Str} {R : Str → Hp → Prop} (h : R acc H) : tJs [] acc σ H R := h
theorem r_fmt (h : te σ H fun x H1 => (∃ y : Str, x = .str y ∧ y.length ≤ sizeLine ∧ Q (.str y) H1) ∨ ∃ i : Int, x = .int i ∧ i.natAbs.log2 < 1920 ∧ Q (.str (toString i)) H1) : tFmt te σ H Q := h
theorem e_app (x : Str) : Str.empty ++ x = x := str_eq (by
  show (#[] ++ x.cps).toList = x.cps.toList
  simp)
theorem len_app (x y : Str) : (x ++ y).length = x.length + y.length := by
  show (x.cps ++ y.cps).size = _
  rw [Array.size_append]
  rfl
theorem ntl {n : Nat} (h : n < 2 ^ 1900) : (nt n).length ≤ 1900 := by rw [len_nt]; exact numL_le (by decide) (bits_lt h)
theorem ntl4 {n : Nat} (h : n < 2 ^ 1200) : (nt n).length ≤ 400 := by rw [len_nt]; exact numL_le (by decide) (Nat.lt_of_lt_of_le h (by decide +kernel))
end
section
variable {P : Program} {w : World} {K : PySem.W.Frag} {mg : Str → Option Value} {base : Heap} {f : Addr} {fd : FuncData}
def spReadNum (K : PySem.W.Frag) : Sp := fun vs H Q _ => ∃ (n : Nat) (m : Int), vs = [.str (nt n), .int m] ∧ (nt n).length ≤ 640 ∧ ((nt n).length : Int) ≤ m ∧ Q (.int (n : Int)) H
def spAmTxt (K : PySem.W.Frag) : Sp := fun vs H Q _ => ∃ v q, vs = [v] ∧ Am K H v q ∧ 0 ≤ q ∧ Sz 1900 q ∧ ∀ H', Ext [] H H' → Q (.str (amTxt q)) H'
abbrev s_amount_text : Stmt := top 27
theorem c_amount_text : FnScope ["value", "top", "bottom"] ["value"] (defScope s_amount_text) := ⟨rfl, rfl, rfl, by decide +kernel, rfl, by decide +kernel, by decide +kernel⟩
theorem f_amount_text (F : FunD K "amount_text" "amount_text" (defArgs s_amount_text) (defBody s_amount_text) (defScope s_amount_text) [] [] f fd) (hm : mg "amount_text" = some (.ref f)) (Fnumber_text : Fn P w K mg base 1 "number_text" (spNumText K)) : FnOk P w K mg base CX0 2 f fd ["value"] (spAmTxt K) := by
  refine ok_def F c_amount_text (fun vs H Q E h => ?_) (fun cdv A outer s H vs Q E hr h => ?_)
  · obtain ⟨v, q, rfl, _⟩ := h
    rfl
  · obtain ⟨v, q, rfl, ⟨a, rfl, ha⟩, hq, hz, k⟩ := h
    have nd := c_amount_text.nd
    refine ⟨_, (pss_cons (ps_asg (pv 0) (pg_tup rfl (pgs_cons (pg_name (i := 1) nd rfl (by first | exact Or.inl rfl | exact Or.inr rfl)) (pgs_cons (pg_name (i := 2) nd rfl (by first | exact Or.inl rfl | exact Or.inr rfl)) pgs_nil))))
      (pss_cons (ps_if (pt_cmpR op_eq (pv 2) pe_int (nomark _))
        (pss_one (ps_ret (pe_fn Fnumber_text (hr.mono (by decide)) (pa_cons (pv 1) pa_nil))))
        pss_nil)
      (pss_one (ps_ret (pe_joined (PJ.cons (pe_fmt (pe_fn Fnumber_text (hr.mono (by decide)) (pa_cons (pv 1) pa_nil))) (PJ.cons pe_str (PJ.cons (pe_fmt (pe_fn Fnumber_text (hr.mono (by decide)) (pa_cons (pv 2) pa_nil))) PJ.nil)))))))), ?_⟩
    show (_ : TS) _ [some _, none, none] _
    try dsimp only [cxOf, Cx.nox]
    have hnum := num_nat hq
    have z1 : q.num.toNat < 2 ^ 1900 := by
      have := hz.1
      rw [hnum] at this
      exact this
    rw [hnum] at ha
    walk_at "go"
    unfold amTxt at k
    by_cases hd : q.den = 1
    · rw [if_pos hd] at k
      refine r_true (len_is (by rw [hd]; rfl)) ?_
      walk_at "go"
      exact ⟨_, rfl, z1, k⟩
    · rw [if_neg hd] at k
      refine r_false (len_not (by omega)) ?_
      walk_at "go"
      refine r_js ?_
      refine r_fmt ?_
      walk_at "go"
      refine ⟨_, rfl, z1, fun H1 e1 => ?_⟩
      refine .inl ⟨_, rfl, Nat.le_trans (ntl z1) (by decide), ?_⟩
      refine ⟨_, rfl, by rw [e_app]; exact Nat.le_trans (ntl z1) (by decide), ?_⟩
      refine r_js ?_
      walk_at "go"
      have l1 : (Str.ofString "/").length = 1 := by decide +kernel
      refine ⟨_, rfl, by rw [e_app, len_app, l1]; exact Nat.le_trans (Nat.add_le_add_right (ntl z1) 1) (by decide), ?_⟩
      refine r_js ?_
      refine r_fmt ?_
      walk_at "go"
      refine ⟨_, rfl, hz.2, fun H2 e2 => ?_⟩
      refine .inl ⟨_, rfl, Nat.le_trans (ntl hz.2) (by decide), ?_⟩
      refine ⟨_, rfl, by rw [e_app, len_app, len_app, l1]; exact Nat.le_trans (Nat.add_le_add (Nat.add_le_add_right (ntl z1) 1) (ntl hz.2)) (by decide), ?_⟩
      refine r_jsN ?_
      rw [e_app]
      exact k _ (e1.trans e2)
abbrev s_law_show : Stmt := top 43
theorem c_law_show : FnScope ["_law_p"] ["_law_p"] (defScope s_law_show) := ⟨rfl, rfl, rfl, by decide +kernel, rfl, by decide +kernel, by decide +kernel⟩
theorem f_law_show (F : FunD K "_law_show" "_law_show" (defArgs s_law_show) (defBody s_law_show) (defScope s_law_show) [] [] f fd) (hm : mg "_law_show" = some (.ref f)) (T : Bt mg) : Fn P w K mg base 1 "_law_show" (spAmTxt K) := by
  refine fn_def F hm c_law_show (fun vs H Q E h => ?_) (fun _ _ _ _ _ _ us hl => match us, hl with | [_], _ => rfl) (fun cdv A outer s H vs Q E hr h => ?_)
  · obtain ⟨v, q, rfl, _⟩ := h
    rfl
  · obtain ⟨v, q, rfl, ⟨a, rfl, ha⟩, hq, hz, k⟩ := h
    have nd := c_law_show.nd
    refine ⟨_, (pss_one (ps_ret (pe_ifExp (pt_cmpR op_eq (pe_ix ix_tup (pv 0) pe_int (fun _ _ => rfl)) pe_int (nomark _)) (pe_callTy call_str_int (by rfl) T.str (by decide +kernel) (pa_cons (pe_ix ix_tup (pv 0) pe_int (fun _ _ => rfl)) pa_nil)) (pe_joined (PJ.cons (pe_fmt (pe_ix ix_tup (pv 0) pe_int (fun _ _ => rfl))) (PJ.cons pe_str (PJ.cons (pe_fmt (pe_ix ix_tup (pv 0) pe_int (fun _ _ => rfl))) PJ.nil))))))), ?_⟩
    show (_ : TS) _ [some _] _
    try dsimp only [cxOf, Cx.nox]
    have hnum := num_nat hq
    have z1 : q.num.toNat < 2 ^ 1900 := by
      have := hz.1
      rw [hnum] at this
      exact this
    rw [hnum] at ha
    walk_at "go"
    unfold amTxt at k
    by_cases hd : q.den = 1
    · rw [if_pos hd] at k
      refine r_true (len_is (by rw [hd]; rfl)) ?_
      walk_at "go"
      exact ⟨_, rfl, Nat.lt_of_lt_of_le (log_lt (by decide) z1) (by decide), k _ Ext.refl⟩
    · rw [if_neg hd] at k
      refine r_false (len_not (by omega)) ?_
      walk_at "go"
      refine r_js ?_
      refine r_fmt ?_
      walk_at "go"
      refine .inr ⟨_, rfl, Nat.lt_of_lt_of_le (log_lt (by decide) z1) (by decide), ?_⟩
      refine ⟨_, rfl, by rw [e_app]; exact Nat.le_trans (ntl z1) (by decide), ?_⟩
      refine r_js ?_
      walk_at "go"
      have l1 : (Str.ofString "/").length = 1 := by decide +kernel
      refine ⟨_, rfl, by rw [e_app, len_app, l1]; exact Nat.le_trans (Nat.add_le_add_right (ntl z1) 1) (by decide), ?_⟩
      refine r_js ?_
      refine r_fmt ?_
      walk_at "go"
      refine .inr ⟨_, rfl, Nat.lt_of_lt_of_le (log_lt (by decide) hz.2) (by decide), ?_⟩
      refine ⟨_, rfl, by rw [e_app, len_app, len_app, l1]; exact Nat.le_trans (Nat.add_le_add (Nat.add_le_add_right (ntl z1) 1) (ntl hz.2)) (by decide), ?_⟩
      refine r_jsN ?_
      rw [e_app]
      exact k _ Ext.refl
def spReadAm (K : PySem.W.Frag) : Sp := fun vs H Q _ => ∃ q, vs = [.str (amTxt q)] ∧ 0 ≤ q ∧ Sz 1200 q ∧ RetAm K H Q q
end
end Yk

set_option maxHeartbeats 8000000
namespace Yk
open PySem PySem.Spec PyProof.Rows L2 TL

section
variable {P : Program} {w : World} {K : PySem.W.Frag} {mg : Str → Option Value} {base : Heap} {f : Addr} {fd : FuncData}
section
variable {H : Hp} {Q : VK} {E : XK} {v1 v2 v3 : V} {p q r : Rat} {m n : Nat}
theorem sumQ2 (p q : Rat) : sumQ [p, q] = p + q := by
  show 0 + p + q = p + q
  rw [Rat.zero_add]
theorem sumQ3 (p q r : Rat) : sumQ [p, q, r] = p + q + r := by
  show 0 + p + q + r = p + q + r
  rw [Rat.zero_add]
theorem k_plus2 (a1 : Am K H v1 p) (a2 : Am K H v2 q) (z1 : Sz 1900 p) (z2 : Sz 1900 q) (k : ∀ v H', Ext [] H H' → Am K H' v (p + q) → Q v H') : spPlus K [v1, v2] H Q E :=
  ⟨[p, q], 1900, Ams.cons a1 (Ams.cons a2 Ams.nil), fun x hx => by
    rcases List.mem_cons.mp hx with rfl | hx
    · exact z1
    · rw [List.mem_singleton.mp hx]; exact z2, by decide, by simp, fun v H' e a => k v H' e (by rw [sumQ2] at a; exact a)⟩
theorem k_plus3 (a1 : Am K H v1 p) (a2 : Am K H v2 q) (a3 : Am K H v3 r) (z1 : Sz 1300 p) (z2 : Sz 1300 q) (z3 : Sz 1300 r) (k : ∀ v H', Ext [] H H' → Am K H' v (p + q + r) → Q v H') : spPlus K [v1, v2, v3] H Q E :=
  ⟨[p, q, r], 1300, Ams.cons a1 (Ams.cons a2 (Ams.cons a3 Ams.nil)), fun x hx => by
    rcases List.mem_cons.mp hx with rfl | hx
    · exact z1
    · rcases List.mem_cons.mp hx with rfl | hx
      · exact z2
      · rw [List.mem_singleton.mp hx]; exact z3, by decide, by simp, fun v H' e a => k v H' e (by rw [sumQ3] at a; exact a)⟩
theorem k_times (a1 : Am K H v1 p) (a2 : Am K H v2 q) (z1 : Sz 4000 p) (z2 : Sz 4000 q) (k : ∀ v H', Ext [] H H' → Am K H' v (p * q) → Q v H') : spTimes K [v1, v2] H Q E := ⟨_, _, p, q, rfl, a1, a2, z1, z2, k⟩
theorem k_over (a1 : Am K H v1 p) (a2 : Am K H v2 q) (h : 0 < q) (z1 : Sz 4000 p) (z2 : Sz 4000 q) (k : ∀ v H', Ext [] H H' → Am K H' v (p / q) → Q v H') : spOver K [v1, v2] H Q E := ⟨_, _, p, q, rfl, a1, a2, h, z1, z2, k⟩
theorem k_minus (a1 : Am K H v1 p) (a2 : Am K H v2 q) (h : q ≤ p) (z1 : Sz 4000 p) (z2 : Sz 4000 q) (k : ∀ v H', Ext [] H H' → Am K H' v (p - q) → Q v H') : spMinus K [v1, v2] H Q E := ⟨_, _, p, q, rfl, a1, a2, h, z1, z2, k⟩
theorem k_cmp (a1 : Am K H v1 p) (a2 : Am K H v2 q) (z1 : Sz 4000 p) (z2 : Sz 4000 q) (k : Q (.int (cmpQ p q)) H) : spCompare K [v1, v2] H Q E := ⟨_, _, p, q, rfl, a1, a2, z1, z2, k⟩
theorem k_order (a1 : Am K H v1 p) (a2 : Am K H v2 q) (z1 : Sz 4000 p) (z2 : Sz 4000 q) (k : Q (.int (cmpQ p q)) H) : spOrder K [v1, v2] H Q E := ⟨_, _, p, q, rfl, a1, a2, z1, z2, k⟩
theorem k_two {ok : Rat → Rat → Prop} {F : Rat → Rat → Rat} (a1 : Am K H v1 p) (a2 : Am K H v2 q) (z1 : Sz 4000 p) (z2 : Sz 4000 q) (h1 : 0 ≤ p) (h2 : 0 ≤ q) (h3 : ok p q) (k : ∀ v H', Ext [] H H' → Am K H' v (F p q) → Q v H') : sp2 ok F K [v1, v2] H Q E := ⟨_, _, p, q, rfl, a1, a2, z1, z2, h1, h2, h3, k⟩
theorem ams_eqd {a b : Addr} {xs ys : List V} {qs : List Rat} (h1 : SqL K H a xs) (h2 : SqL K H b ys) (h3 : Ams K H xs qs) (h4 : Ams K H ys qs) (h5 : qs.length ≤ 4000) (n : Nat) : Eqd K H (n + 2) (.ref a) (.ref b) :=
  .lst h1 h2 (h3.1.trans h4.1.symm) (by rw [h3.1]; exact h5) fun i x y hx hy => by
    obtain ⟨q, hq, e1⟩ := h3.at_ hx
    exact e1.eqd n (h4.2 i y q hy hq)
theorem k_like {v w : V} {n : Nat} (h : Eqd K H n v w) (k : ∀ H', Ext [] H H' → Q (.bl true) H') : spLike K (n + 1) [v, w] H Q E := ⟨v, w, rfl, h, k⟩
theorem ints_eqd {a b : Addr} {ns : List Int} (h1 : SqL K H a (ns.map V.int)) (h2 : SqL K H b (ns.map V.int)) (h : ns.length ≤ 4000) (n : Nat) : Eqd K H (n + 1) (.ref a) (.ref b) :=
  .lst h1 h2 rfl (by rw [List.length_map]; exact h) fun i x y hx hy => by
    rw [hx] at hy
    cases hy
    rw [List.getElem?_map] at hx
    cases e : ns[i]? with
    | none => rw [e] at hx; cases hx
    | some z => rw [e] at hx; cases hx; exact .int _ _
theorem cmpQ_eq (p q : Rat) : cmpQ p q = cmpQ' p q := rfl
end
def spThree (K : PySem.W.Frag) : Sp := fun vs H Q _ => ∃ v1 v2 v3 p q r, vs = [v1, v2, v3] ∧ Am K H v1 p ∧ Am K H v2 q ∧ Am K H v3 r ∧ 0 ≤ p ∧ 0 ≤ q ∧ 0 ≤ r ∧ Sz 114 p ∧ Sz 114 q ∧ Sz 114 r ∧ ∀ H', Ext [] H H' → Q (.bl true) H'
end
end Yk

set_option maxHeartbeats 8000000
namespace Yk
open PySem PySem.Spec PyProof.Rows L2 TL

section
variable {P : Program} {w : World} {K : PySem.W.Frag} {mg : Str → Option Value} {base : Heap} {f : Addr} {fd : FuncData}
/-! the row of a turn -/
theorem Am.b2 {H H1 : Hp} {b : Bag} {v : V} {q : Rat} (e : Ext [b.a] H H1) (hb : BagAt K H b) (h : Am K H v q) : Am K H1 v q := h.b hb e
def Good (qs : List Rat) : Prop := 3 ≤ qs.length ∧ qs.length ≤ 6 ∧ ∀ q ∈ qs, 0 ≤ q ∧ Sz 114 q
structure RowAt (K : PySem.W.Frag) (H0 H : Hp) (b : Bag) (row : Addr) (xs : List V) (qs : List Rat) : Prop where
  at_ : H row = some (.lst xs)
  ams : Ams K H xs qs
  good : Good qs
  bag : BagAt K H b
  new : H0 row = none
  bag0 : BagAt K H0 b
  ext : Ext [b.a] H0 H
theorem RowAt.ne {H0 H : Hp} {b : Bag} {row : Addr} {xs : List V} {qs : List Rat} (R : RowAt K H0 H b row xs qs) : row ≠ b.a := fun z => R.bag0.ne R.new z.symm
theorem RowAt.x0 {H0 H H1 : Hp} {b : Bag} {row : Addr} {xs : List V} {qs : List Rat} (e : Ext [] H H1) (R : RowAt K H0 H b row xs qs) : RowAt K H0 H1 b row xs qs :=
  ⟨e _ _ R.at_ (fun z => nomatch z), R.ams.x0 e, R.good, R.bag.x0 e, R.new, R.bag0, R.ext.trans e.of0⟩
theorem RowAt.b {H0 H H1 : Hp} {b : Bag} {row : Addr} {xs : List V} {qs : List Rat} (e : Ext [b.a] H H1) (hb : BagAt K H1 b) (R : RowAt K H0 H b row xs qs) : RowAt K H0 H1 b row xs qs :=
  ⟨e _ _ R.at_ (by simpa using R.ne), R.ams.b R.bag e, R.good, hb, R.new, R.bag0, R.ext.trans e⟩
theorem RowAt.sq {H0 H : Hp} {b : Bag} {row : Addr} {xs : List V} {qs : List Rat} (R : RowAt K H0 H b row xs qs) : SqL K H row xs := .inl (.inl R.at_)
theorem Ams.set {H : Hp} {xs : List V} {qs : List Rat} (h : Ams K H xs qs) {j : Nat} {v : V} {q : Rat} (hv : Am K H v q) : Ams K H (xs.set j v) (qs.set j q) := by
  refine ⟨by rw [List.length_set, List.length_set, h.1], fun i x y a b => ?_⟩
  by_cases hj : j = i
  · subst hj
    rw [List.getElem?_set_self'] at a b
    cases ex : xs[j]? with
    | none => rw [ex] at a; cases a
    | some x0 =>
      cases eq : qs[j]? with
      | none => rw [eq] at b; cases b
      | some q0 =>
        rw [ex] at a
        rw [eq] at b
        cases a
        cases b
        exact hv
  · rw [List.getElem?_set_ne hj] at a b
    exact h.2 i x y a b
theorem lmax_eq (m q : Rat) : lmax m q = if m < q then q else m := by
  unfold lmax
  by_cases h1 : q < m
  · rw [if_pos h1, if_neg (by grind)]
  · rw [if_neg h1]
    by_cases h2 : m < q
    · rw [if_pos h2]
    · rw [if_neg h2]; grind
theorem minQ_spec : ∀ (qs : List Rat) (p : Rat), minQ p qs ∈ p :: qs ∧ ∀ x ∈ p :: qs, minQ p qs ≤ x
  | [], p => ⟨List.mem_cons_self, fun x hx => by rw [List.mem_singleton.mp hx]; exact Rat.le_refl⟩
  | q :: r, p => by
    obtain ⟨h1, h2⟩ := minQ_spec r (if q < p then q else p)
    have e : minQ p (q :: r) = minQ (if q < p then q else p) r := rfl
    rw [e]
    have h3 := h2 _ List.mem_cons_self
    refine ⟨?_, fun x hx => ?_⟩
    · rcases List.mem_cons.mp h1 with h | h
      · rw [h]; split <;> simp
      · exact List.mem_cons_of_mem _ (List.mem_cons_of_mem _ h)
    · rcases List.mem_cons.mp hx with rfl | hx
      · refine Rat.le_trans h3 ?_
        split
        · grind
        · exact Rat.le_refl
      · rcases List.mem_cons.mp hx with rfl | hx
        · refine Rat.le_trans h3 ?_
          split
          · exact Rat.le_refl
          · grind
        · exact h2 x (List.mem_cons_of_mem _ hx)
theorem maxQ_spec : ∀ (qs : List Rat) (p : Rat), maxQ p qs ∈ p :: qs ∧ ∀ x ∈ p :: qs, x ≤ maxQ p qs
  | [], p => ⟨List.mem_cons_self, fun x hx => by rw [List.mem_singleton.mp hx]; exact Rat.le_refl⟩
  | q :: r, p => by
    obtain ⟨h1, h2⟩ := maxQ_spec r (if p < q then q else p)
    have e : maxQ p (q :: r) = maxQ (if p < q then q else p) r := rfl
    rw [e]
    have h3 := h2 _ List.mem_cons_self
    refine ⟨?_, fun x hx => ?_⟩
    · rcases List.mem_cons.mp h1 with h | h
      · rw [h]; split <;> simp
      · exact List.mem_cons_of_mem _ (List.mem_cons_of_mem _ h)
    · rcases List.mem_cons.mp hx with rfl | hx
      · refine Rat.le_trans ?_ h3
        split
        · grind
        · exact Rat.le_refl
      · rcases List.mem_cons.mp hx with rfl | hx
        · refine Rat.le_trans ?_ h3
          split
          · exact Rat.le_refl
          · grind
        · exact h2 x (List.mem_cons_of_mem _ hx)
theorem minQ_perm {p q : Rat} {l m : List Rat} (h : (p :: l).Perm (q :: m)) : minQ p l = minQ q m := by
  obtain ⟨a1, a2⟩ := minQ_spec l p
  obtain ⟨b1, b2⟩ := minQ_spec m q
  exact Rat.le_antisymm (a2 _ (h.symm.subset b1)) (b2 _ (h.subset a1))
theorem maxQ_perm {p q : Rat} {l m : List Rat} (h : (p :: l).Perm (q :: m)) : maxQ p l = maxQ q m := by
  obtain ⟨a1, a2⟩ := maxQ_spec l p
  obtain ⟨b1, b2⟩ := maxQ_spec m q
  exact Rat.le_antisymm (b2 _ (h.subset a1)) (a2 _ (h.symm.subset b1))
theorem foldl_lmin (q : Rat) (l : List Rat) : (q :: l).foldl lmin q = minQ q l := by
  show l.foldl lmin (lmin q q) = minQ q l
  have e : lmin q q = q := by unfold lmin; split <;> rfl
  rw [e]
  rfl
theorem foldl_lmax (q : Rat) (l : List Rat) : (q :: l).foldl lmax q = maxQ q l := by
  show l.foldl lmax (lmax q q) = maxQ q l
  have e : lmax q q = q := by unfold lmax; split <;> rfl
  rw [e]
  have h : ∀ (l : List Rat) (z : Rat), l.foldl lmax z = l.foldl (fun m q => if m < q then q else m) z := by
    intro l
    induction l with
    | nil => intro z; rfl
    | cons a r ih =>
      intro z
      show r.foldl lmax (lmax z a) = r.foldl _ (if z < a then a else z)
      rw [lmax_eq, ih]
  exact h l q
/-- from the same things in another order, the same row -/
theorem ams_perm {H : Hp} {xs ys : List V} (p : ys.Perm xs) : ∀ {qs : List Rat}, Ams K H xs qs → ∃ rs, Ams K H ys rs ∧ rs.Perm qs := by
  induction p with
  | nil => exact fun {qs} h => ⟨qs, h, List.Perm.refl _⟩
  | cons x _ ih =>
    intro qs h
    cases qs with
    | nil => exact absurd h.1 (by simp)
    | cons q r =>
      have h1 : Ams K H _ r := ⟨by simpa using h.1, fun i v u a b => h.2 (i + 1) v u (by simpa using a) (by simpa using b)⟩
      obtain ⟨rs, a, b⟩ := ih h1
      exact ⟨q :: rs, Ams.cons (h.2 0 x q rfl rfl) a, b.cons q⟩
  | swap x y l =>
    intro qs h
    match qs, h with
    | [], h => exact absurd h.1 (by simp)
    | [_], h => exact absurd h.1 (by simp)
    | q1 :: q2 :: r, h =>
      have h1 : Ams K H l r := ⟨by simpa using h.1, fun i v u a b => h.2 (i + 2) v u (by simpa using a) (by simpa using b)⟩
      exact ⟨q2 :: q1 :: r, Ams.cons (h.2 1 _ q2 rfl rfl) (Ams.cons (h.2 0 _ q1 rfl rfl) h1), List.Perm.swap q1 q2 r⟩
  | trans _ _ ih1 ih2 =>
    intro qs h
    obtain ⟨rs, a, b⟩ := ih2 h
    obtain ⟨ts, c, d⟩ := ih1 a
    exact ⟨ts, c, d.trans b⟩
theorem Good.perm {qs rs : List Rat} (g : Good qs) (p : rs.Perm qs) : Good rs := ⟨by rw [p.length_eq]; exact g.1, by rw [p.length_eq]; exact g.2.1, fun q hq => g.2.2 q (p.subset hq)⟩
theorem k_amt {H : Hp} {b : Bag} {Q : VK} {E : XK} (hb : BagAt K H b) (k : ∀ v q H', Am K H' v q → 0 ≤ q → Sz 114 q → BagAt K H' b → Ext [b.a] H H' → Q v H') : spAmt K [.ref b.a] H Q E := ⟨b, rfl, hb, k⟩
theorem k_draw {H : Hp} {b : Bag} {n : Int} {Q : VK} {E : XK} (hb : BagAt K H b) (h0 : 0 < n) (h1 : n < 2 ^ 400) (k : ∀ (x : Int) H', 0 ≤ x → x < n → BagAt K H' b → Ext [b.a] H H' → Q (.int x) H') : spDraw K [.ref b.a, .int n] H Q E := ⟨b, n, rfl, h0, h1, hb, k⟩
end
end Yk

set_option maxHeartbeats 4000000
namespace Yk
open PySem PySem.Spec PyProof.Rows L2
theorem cmpQ_le {p q : Rat} : cmpQ p q ≤ 0 ↔ p ≤ q := by rw [← Int.not_lt, cmp_gt]; exact Rat.not_lt
def strB : PyData → Bool
  | .str z => decide (z.length ≤ 10)
  | _ => true
section
variable {K : PySem.W.Frag} {H : Hp} {Q : VK}
theorem bagS {b : Bag} (hb : BagAt K H b) : ∀ c ∈ [b.a], ∃ l, H c = some (.lst l) := fun c hc => by rw [List.mem_singleton.mp hc]; exact hb.lst
theorem lstS1 {c : Addr} {l : List V} (h : H c = some (.lst l)) : ∀ x ∈ [c], ∃ l, H x = some (.lst l) := fun x hx => by rw [List.mem_singleton.mp hx]; exact ⟨l, h⟩
theorem extW {c : Addr} {o : HO} : Ext [c] H (upd H c o) := Ext.refl.at_ List.mem_cons_self
theorem Am.w {c : Addr} {l l' : List V} {v : V} {q : Rat} (h : H c = some (.lst l)) (a : Am K H v q) : Am K (upd H c (.lst l')) v q := a.x extW (lstS1 h)
theorem Ams.w {c : Addr} {l l' : List V} {v : List V} {q : List Rat} (h : H c = some (.lst l)) (a : Ams K H v q) : Ams K (upd H c (.lst l')) v q := a.x extW (lstS1 h)
theorem dp_am {v : V} {q : Rat} (h : Am K H v q) : Dp K H v (.tuple [.int q.num, .int (q.den : Int)]) := by
  obtain ⟨a, rfl, h⟩ := h
  exact .tup h (.cons (.int _) (.cons (.int _) .nil))
theorem rat_eq {p q : Rat} : p = q ↔ p.num = q.num ∧ p.den = q.den := ⟨fun h => by rw [h]; exact ⟨rfl, rfl⟩, fun h => Rat.ext h.1 h.2⟩
theorem eq_am {v w : V} {p q : Rat} (h : Am K H v p) (g : Am K H w q) (k : Q (.bl (decide (p = q))) H) : rEqD K v w H Q := by
  refine ⟨_, _, dp_am h, dp_am g, rfl, rfl, ?_⟩
  have e : PyData.eqv (.tuple [.int p.num, .int (p.den : Int)]) (.tuple [.int q.num, .int (q.den : Int)]) = decide (p = q) := by
    rw [Bool.eq_iff_iff]
    simp [PyData.eqv, PyData.eqvAll, rat_eq]
    omega
  rw [e]
  exact k
end
end Yk

set_option maxHeartbeats 8000000
namespace Yk
open PySem PySem.Spec PyProof.Rows L2

/-! Any values: which are numbers, amounts, manners. -/
def numD : PyData → Bool
  | .int _ => true
  | _ => false
def amD : PyData → Bool
  | .tuple [.int t, .int b] => decide (0 ≤ t) && (decide (1 ≤ b) && decide (Nat.gcd t.natAbs b.natAbs = 1))
  | _ => false
def leD : PyData → PyData → Bool
  | .tuple [.int a, .int b], .tuple [.int c, .int d] => decide (a * d ≤ c * b)
  | _, _ => false
def pairD : PyData → Bool
  | .tuple [x, y] => amD x && (amD y && leD x y)
  | _ => false
def manD : PyData → Bool
  | .tuple [] => true
  | d => pairD d
def smAmB : PyData → Bool
  | .tuple [.int t, .int b] => decide (t.natAbs < 2 ^ 200) && decide (b.natAbs < 2 ^ 200)
  | _ => true
def smB : PyData → Bool
  | .tuple [x, y] => smAmB x && smAmB y && smAmB (.tuple [x, y])
  | _ => true
theorem numD_int {d : PyData} (h : numD d = true) : ∃ i, d = .int i := by
  cases d with
  | int i => exact ⟨i, rfl⟩
  | _ => exact absurd h (by simp [numD])
theorem amD_1 {x y : PyData} (h : numD x = false) : amD (.tuple [x, y]) = false := by
  cases x with
  | int i => exact absurd h (by simp [numD])
  | _ => rfl
theorem amD_2 {x y : PyData} (h : numD y = false) : amD (.tuple [x, y]) = false := by
  cases x with
  | int i =>
    cases y with
    | int i => exact absurd h (by simp [numD])
    | _ => rfl
  | _ => rfl
theorem amD_s (x : PyData) : amD (.tuple [x]) = false := by cases x <;> rfl
theorem amD_l (x y z : PyData) (t : List PyData) : amD (.tuple (x :: y :: z :: t)) = false := by cases x <;> cases y <;> rfl
theorem amD_rat {d : PyData} (h : amD d = true) : ∃ p : Rat, 0 ≤ p ∧ d = .tuple [.int p.num, .int (p.den : Int)] := by
  unfold amD at h
  split at h
  · rename_i t b
    simp only [Bool.and_eq_true, decide_eq_true_eq] at h
    obtain ⟨h1, h2, h3⟩ := h
    have e : ((b.toNat : Nat) : Int) = b := by omega
    have hc : t.natAbs.Coprime b.toNat := by
      have : b.toNat = b.natAbs := by omega
      rw [this]
      exact h3
    exact ⟨⟨t, b.toNat, by omega, hc⟩, Rat.num_nonneg.mp h1, by show PyData.tuple [.int t, .int b] = .tuple [.int t, .int ((b.toNat : Nat) : Int)]; rw [e]⟩
  · cases h
theorem smAm_sz {p : Rat} (h : smAmB (.tuple [.int p.num, .int (p.den : Int)]) = true) : Sz 200 p := by
  simp only [smAmB, Bool.and_eq_true, decide_eq_true_eq] at h
  exact ⟨h.1, by simpa using h.2⟩
theorem leD_rat {p q : Rat} : leD (.tuple [.int p.num, .int (p.den : Int)]) (.tuple [.int q.num, .int (q.den : Int)]) = decide (p ≤ q) := by
  show decide (p.num * (q.den : Int) ≤ q.num * (p.den : Int)) = decide (p ≤ q)
  rw [Bool.eq_iff_iff, decide_eq_true_iff, decide_eq_true_iff, Rat.le_iff]
theorem manD_eq (d : PyData) : manD d = (pairD d || (match d with | .tuple [] => true | _ => false)) := by
  unfold manD
  split
  · rfl
  · rename_i h
    cases d with
    | tuple ds => cases ds with
      | nil => exact absurd rfl h
      | cons x r => show _ = (pairD _ || false); rw [Bool.or_false]
    | _ => show _ = (pairD _ || false); rw [Bool.or_false]
section
variable {K : PySem.W.Frag} {H H1 : Hp}
mutual
theorem dpx0 (e : Ext [] H H1) : ∀ {v : V} {d : PyData}, Dp K H v d → Dp K H1 v d
  | _, _, .non => .non
  | _, _, .bl b => .bl b
  | _, _, .int i => .int i
  | _, _, .str z => .str z
  | _, _, .lst h g => .lst (lst0 e h) (dpAllx0 e g)
  | _, _, .tup h g => .tup (tup0 e h) (dpAllx0 e g)
theorem dpAllx0 (e : Ext [] H H1) : ∀ {vs : List V} {ds : List PyData}, DpAll K H vs ds → DpAll K H1 vs ds
  | _, _, .nil => .nil
  | _, _, .cons h g => .cons (dpx0 e h) (dpAllx0 e g)
end
end
section
variable {K : PySem.W.Frag} {H : Hp} {Q : VK}
theorem dp_rat {v : V} {p : Rat} (h : Dp K H v (.tuple [.int p.num, .int (p.den : Int)])) : Am K H v p := by
  cases h with
  | tup h g =>
    cases g with
    | cons a g =>
      cases a
      cases g with
      | cons b g =>
        cases b
        cases g
        exact ⟨_, rfl, h⟩
theorem len_ne {n : Nat} {k : Int} (h : (n : Int) ≠ k) : (!decide (V.int (n : Int) = V.int k)) = true := by rw [len_not h]; rfl
theorem r_lcT {a : Addr} {xs : List V} {g : TG} {tt : TT} {te : TE} {vs : List Nat} {σ : L2.St} {D : Addr} {Qd : Hp → Prop} (Pv : Nat → Hp → Prop) (h0 : Pv 0 (upd H D (.lst []))) (hl : ∀ i H, i ≤ xs.length → Pv i H → SqT K H a xs)
    (hs : ∀ i x H, xs[i]? = some x → Pv i H → g x (wipe σ vs) H fun σ2 H2 => wipe σ2 vs = wipe σ vs ∧ tt σ2 H2 fun b H3 =>
      if b = true then te σ2 H3 fun y H4 => ∃ acc, H4 D = some (.lst acc) ∧ acc.length < sizeLine ∧ Pv (i + 1) (upd H4 D (.lst (acc ++ [y]))) else Pv (i + 1) H3) (hd : ∀ H, Pv xs.length H → Qd H) :
    ∃ W : Nat → Nat → Hp → Prop, (∃ m, W 0 m (upd H D (.lst []))) ∧ ∀ i m H, W i m H →
      ((Itt K a).stop i H ∧ Qd H) ∨ ((Itt K a).go i H ∧ ∃ Nx : Hp → Prop, (∀ H', Nx H' → ∃ m', m' < m ∧ W (i + 1) m' H') ∧ ∀ x H', (Itt K a).yld i H x H' → g x (wipe σ vs) H' fun σ2 H2 => wipe σ2 vs = wipe σ vs ∧ tt σ2 H2 fun b H3 =>
        if b = true then te σ2 H3 fun y H4 => ∃ acc, H4 D = some (.lst acc) ∧ acc.length < sizeLine ∧ Nx (upd H4 D (.lst (acc ++ [y]))) else Nx H3) :=
  lc_tup (Qd := Qd) Pv h0 hl hs hd
end
section
variable {P : Program} {w : World} {K : PySem.W.Frag} {mg : Str → Option Value} {base : Heap} {f : Addr} {fd : FuncData}
def spIsNumD (K : PySem.W.Frag) : Sp := fun vs H Q _ => ∃ (v : V) (d : PyData), vs = [v] ∧ Dp K H v d ∧ Q (.bl (numD d)) H
abbrev s_is_number : Stmt := top 2
theorem c_is_number : FnScope ["value"] ["value"] (defScope s_is_number) := ⟨rfl, rfl, rfl, by decide +kernel, rfl, by decide +kernel, by decide +kernel⟩
theorem f_is_number (F : FunD K "is_number" "is_number" (defArgs s_is_number) (defBody s_is_number) (defScope s_is_number) [] [] f fd) (hm : mg "is_number" = some (.ref f)) (T : Bt mg) : Fn P w K mg base 1 "is_number" (spIsNumD K) := by
  refine fn_def F hm c_is_number (fun vs H Q E h => ?_) (fun _ _ _ _ _ _ us hl => match us, hl with | [_], _ => rfl) (fun cdv A outer s H vs Q E hr h => ?_)
  · obtain ⟨v, d, rfl, _⟩ := h
    rfl
  · obtain ⟨v, d, rfl, hd, k⟩ := h
    have nd := c_is_number.nd
    refine ⟨_, (pss_one (ps_ret (pe_and (pe_callB call_isi (by rfl) T.isinstance (by decide +kernel) (pa_cons (pv 0) (pa_cons (pe_bltn (v := .ty "int") (by rfl) T.int (by decide +kernel) rfl) pa_nil))) (pe_one (pe_not (pe_callB call_isi (by rfl) T.isinstance (by decide +kernel) (pa_cons (pv 0) (pa_cons (pe_bltn (v := .ty "bool") (by rfl) T.bool (by decide +kernel) rfl) pa_nil)))))))), ?_⟩
    show (_ : TS) _ [some _] _
    try dsimp only [cxOf, Cx.nox]
    cases hd with
    | non => walk_at "run"; exact k
    | bl b => walk_at "run"; exact k
    | int i => walk_at "run"; exact k
    | str x => walk_at "run"; exact k
    | lst h g => walk_at "run"; exact k
    | tup h g => walk_at "run"; exact k
def spIsAmD (K : PySem.W.Frag) : Sp := fun vs H Q _ => ∃ (v : V) (d : PyData), vs = [v] ∧ Dp K H v d ∧ Q (.bl (amD d)) H
abbrev s_is_amount : Stmt := top 16
theorem c_is_amount : FnScope ["value", "top", "bottom"] ["value"] (defScope s_is_amount) := ⟨rfl, rfl, rfl, by decide +kernel, rfl, by decide +kernel, by decide +kernel⟩
theorem f_is_amount (F : FunD K "is_amount" "is_amount" (defArgs s_is_amount) (defBody s_is_amount) (defScope s_is_amount) [] [] f fd) (hm : mg "is_amount" = some (.ref f)) (T : Bg mg) (Fis_number : Fn P w K mg base 1 "is_number" (spIsNumD K)) : FnOk P w K mg base CX0 2 f fd ["value"] (spIsAmD K) := by
  refine ok_def F c_is_amount (fun vs H Q E h => ?_) (fun cdv A outer s H vs Q E hr h => ?_)
  · obtain ⟨v, d, rfl, _⟩ := h
    rfl
  · obtain ⟨v, d, rfl, hd, k⟩ := h
    have nd := c_is_amount.nd
    refine ⟨_, (pss_cons (ps_if (PW.pt (pw_or (pt_not (pt_val (pe_callB call_isi (by rfl) T.isinstance (by decide +kernel) (pa_cons (pv 0) (pa_cons (pe_bltn (v := .ty "tuple") (by rfl) T.tuple (by decide +kernel) rfl) pa_nil))))) (pw_or1 (pt_cmpR op_ne (pe_callB cr_len (by rfl) T.len (by decide +kernel) (pa_cons (pv 0) pa_nil)) pe_int (nomark _)))))
        (pss_one (ps_ret pe_bl))
        pss_nil)
      (pss_cons (ps_asg (pv 0) (pg_tup rfl (pgs_cons (pg_name (i := 1) nd rfl (by first | exact Or.inl rfl | exact Or.inr rfl)) (pgs_cons (pg_name (i := 2) nd rfl (by first | exact Or.inl rfl | exact Or.inr rfl)) pgs_nil))))
      (pss_cons (ps_if (PW.pt (pw_or (pt_not (pt_val (pe_fn Fis_number (hr.mono (by decide)) (pa_cons (pv 1) pa_nil)))) (pw_or1 (pt_not (pt_val (pe_fn Fis_number (hr.mono (by decide)) (pa_cons (pv 2) pa_nil)))))))
        (pss_one (ps_ret pe_bl))
        pss_nil)
      (pss_one (ps_ret (pe_and (pe_cmpR op_ge (pv 1) pe_int (nomark _)) (pe_and (pe_cmpR op_ge (pv 2) pe_int (nomark _)) (pe_one (pe_cmpR op_eq (pe_callBfun cr_gcd (by rfl) T.gcd (pa_cons (pv 1) (pa_cons (pv 2) pa_nil))) pe_int (nomark _)))))))))), ?_⟩
    show (_ : TS) _ [some _, none, none] _
    try dsimp only [cxOf, Cx.nox]
    cases hd with
    | non => walk_at "run"; exact k
    | bl b => walk_at "run"; exact k
    | int i => walk_at "run"; exact k
    | str x => walk_at "run"; exact k
    | lst h g => walk_at "run"; exact k
    | tup h g =>
      cases g with
      | nil => walk_at "run"; exact k
      | cons h1 g =>
        cases g with
        | nil => rw [amD_s] at k; walk_at "run"; exact k
        | cons h2 g =>
          cases g with
          | cons h3 g =>
            rw [amD_l] at k
            walk_at "run"
            exact k
          | nil =>
            rename_i v1 d1 v2 d2
            walk_at "run"
            refine ⟨v1, d1, rfl, h1, ?_⟩
            walk_at "go"
            cases hn1 : numD d1 with
            | false =>
              rw [amD_1 hn1] at k
              walk_at "run"
              exact k
            | true =>
              obtain ⟨i, rfl⟩ := numD_int hn1
              cases h1
              walk_at "run"
              refine ⟨v2, d2, rfl, h2, ?_⟩
              walk_at "go"
              cases hn2 : numD d2 with
              | false =>
                rw [amD_2 hn2] at k
                walk_at "run"
                exact k
              | true =>
                obtain ⟨j, rfl⟩ := numD_int hn2
                cases h2
                have e : amD (.tuple [.int i, .int j]) = (decide (0 ≤ i) && (decide (1 ≤ j) && decide (Nat.gcd i.natAbs j.natAbs = 1))) := rfl
                rw [e] at k
                walk_at "run"
                refine r_dec (fun h0 => ?_) (fun h0 => ?_)
                · walk_at "run"
                  refine r_dec (fun h5 => ?_) (fun h5 => ?_)
                  · walk_at "run"
                    have e2 : decide (V.int ((Nat.gcd i.natAbs j.natAbs : Nat) : Int) = V.int 1) = decide (Nat.gcd i.natAbs j.natAbs = 1) := by
                      rw [Bool.eq_iff_iff, decide_eq_true_iff, decide_eq_true_iff]
                      constructor
                      · intro z; have := V.int.inj z; omega
                      · intro z; rw [z]; rfl
                    rw [e2]
                    rw [decide_eq_true h0, decide_eq_true h5] at k
                    exact k
                  · rw [decide_eq_true h0, decide_eq_false h5] at k
                    exact k
                · rw [decide_eq_false h0] at k
                  exact k
def spIsMan (K : PySem.W.Frag) : Sp := fun vs H Q _ => ∃ (v : V) (d : PyData), vs = [v] ∧ Dp K H v d ∧ smB d = true ∧ Q (.bl (manD d)) H
theorem pairD_1 {x y : PyData} (h : amD x = false) : pairD (.tuple [x, y]) = false := by show (amD x && (amD y && leD x y)) = false; rw [h]; rfl
theorem pairD_2 {x y : PyData} (h : amD y = false) : pairD (.tuple [x, y]) = false := by show (amD x && (amD y && leD x y)) = false; rw [h]; cases amD x <;> rfl
theorem pairD_3 {x y : PyData} (h : amD x = true) (g : amD y = true) : pairD (.tuple [x, y]) = leD x y := by show (amD x && (amD y && leD x y)) = leD x y; rw [h, g]; rfl
def spLIsAm (K : PySem.W.Frag) : Sp := fun vs H Q _ => ∃ (v : V) (d : PyData), vs = [v] ∧ Dp K H v d ∧ smAmB d = true ∧ ∀ H', Ext [] H H' → Q (.bl (amD d)) H'
theorem gcd_low {a b : Nat} (hb : 0 < b) : (a / Nat.gcd a b = a ∧ b / Nat.gcd a b = b) ↔ Nat.gcd a b = 1 := by
  constructor
  · rintro ⟨_, h⟩
    have hg : 0 < Nat.gcd a b := Nat.gcd_pos_of_pos_right a hb
    refine Nat.le_antisymm (Nat.not_lt.mp fun z => ?_) hg
    have := Nat.div_lt_self hb z
    omega
  · intro h
    rw [h, Nat.div_one, Nat.div_one]
    exact ⟨rfl, rfl⟩
abbrev s_law_is_amount : Stmt := top 44
theorem c_law_is_amount : FnScope ["_law_x", "_law_part"] ["_law_x"] (defScope s_law_is_amount) := ⟨rfl, rfl, rfl, by decide +kernel, rfl, by decide +kernel, by decide +kernel⟩
theorem f_law_is_amount (F : FunD K "_law_is_amount" "_law_is_amount" (defArgs s_law_is_amount) (defBody s_law_is_amount) (defScope s_law_is_amount) [] [] f fd) (hm : mg "_law_is_amount" = some (.ref f)) (T : Bt mg) (F_law_pair : Fn P w K mg base 1 "_law_pair" (spPair K)) : Fn P w K mg base 2 "_law_is_amount" (spLIsAm K) := by
  refine fn_def F hm c_law_is_amount (fun vs H Q E h => ?_) (fun _ _ _ _ _ _ us hl => match us, hl with | [_], _ => rfl) (fun cdv A outer s H vs Q E hr h => ?_)
  · obtain ⟨v, d, rfl, _⟩ := h
    rfl
  · obtain ⟨v, d, rfl, hd, hsm, k⟩ := h
    have nd := c_law_is_amount.nd
    refine ⟨_, (pss_cons (ps_if (PW.pt (pw_or (pt_not (pt_val (pe_callB call_isi (by rfl) T.isinstance (by decide +kernel) (pa_cons (pv 0) (pa_cons (pe_bltn (v := .ty "tuple") (by rfl) T.tuple (by decide +kernel) rfl) pa_nil))))) (pw_or1 (pt_cmpR op_ne (pe_callB cr_len (by rfl) T.len (by decide +kernel) (pa_cons (pv 0) pa_nil)) pe_int (nomark _)))))
        (pss_one (ps_ret pe_bl))
        pss_nil)
      (pss_cons (ps_if (pt_val (pe_callB (cr_any rfl) (by rfl) T.any (by decide +kernel) (pa_cons (pe_lc (own := [("_law_part", 1)]) (g := gName 1) rfl nd (pi_tup (pv 0)) (blkOk_by (N := ["_law_x", "_law_part"]) (sc := defScope s_law_is_amount) (by decide +kernel)) (fun _ _ _ _ _ => pg_name (i := 1) nd rfl (Or.inl rfl)) (fun _ _ _ _ _ => pts_nil) (fun _ _ _ _ _ => (pe_or (pe_callB call_isi (by rfl) T.isinstance (by decide +kernel) (pa_cons (pv 1) (pa_cons (pe_bltn (v := .ty "bool") (by rfl) T.bool (by decide +kernel) rfl) pa_nil)) : PE _ _ (tCB (rIsi K) _)) (pe_one (pe_not (pe_callB call_isi (by rfl) T.isinstance (by decide +kernel) (pa_cons (pv 1) (pa_cons (pe_bltn (v := .ty "int") (by rfl) T.int (by decide +kernel) rfl) pa_nil)) : PE _ _ (tCB (rIsi K) _))))))) pa_nil)))
        (pss_one (ps_ret pe_bl))
        pss_nil)
      (pss_one (ps_ret (pe_and (pe_cmpR op_ge (pe_ix ix_tup (pv 0) pe_int (fun _ _ => rfl)) pe_int (nomark _)) (pe_and (pe_cmpR op_ge (pe_ix ix_tup (pv 0) pe_int (fun _ _ => rfl)) pe_int (nomark _)) (pe_one (pe_cmpR (op_eqD hr.units) (pe_fn F_law_pair (hr.mono (by decide)) (pa_cons (pe_ix ix_tup (pv 0) pe_int (fun _ _ => rfl)) (pa_cons (pe_ix ix_tup (pv 0) pe_int (fun _ _ => rfl)) pa_nil))) (pv 0) (nomark _))))))))), ?_⟩
    show (_ : TS) _ [some _, none] _
    try dsimp only [cxOf, Cx.nox]
    have k0 := k H Ext.refl
    cases hd with
    | non => walk_at "run"; exact k0
    | bl b => walk_at "run"; exact k0
    | int i => walk_at "run"; exact k0
    | str x => walk_at "run"; exact k0
    | lst h g => walk_at "run"; exact k0
    | tup h g =>
      cases g with
      | nil => walk_at "run"; exact k0
      | cons h1 g =>
        cases g with
        | nil => rw [amD_s] at k0; walk_at "run"; exact k0
        | cons h2 g =>
          cases g with
          | cons h3 g =>
            rw [amD_l] at k0
            walk_at "run"
            exact k0
          | nil =>
            rename_i a v1 d1 v2 d2
            clear k0
            walk_at "run"
            refine ⟨a, rfl, ⟨_, h⟩, fun D hD => ?_⟩
            have hnum : ∀ {x : V} {e : PyData} {H1 : Hp} {R : VK}, Dp K H x e → Ext [] H H1 → (R (.bl (!numD e)) H1) → True := fun _ _ _ => trivial
            refine r_lcT (xs := [v1, v2]) (fun i H1 => H1 D = some (.lst (([!numD d1, !numD d2].take i).map V.bl)) ∧ Ext [] H H1) ⟨upd_same, Ext.refl.new hD⟩ ?_ ?_ ?_
            · rintro i H1 hi ⟨_, n1⟩
              exact tup0 n1 h
            · rintro i x H1 hx ⟨hb1, n1⟩
              obtain ⟨e, hde, hi, htk⟩ : ∃ e, Dp K H x e ∧ i ≤ 1 ∧ [!numD d1, !numD d2].take (i + 1) = [!numD d1, !numD d2].take i ++ [!numD e] := by
                match i, hx with
                | 0, hx => cases hx; exact ⟨d1, h1, by decide, rfl⟩
                | 1, hx => cases hx; exact ⟨d2, h2, by decide, rfl⟩
                | i + 2, hx => cases hx
              have hlen : ((([!numD d1, !numD d2].take i)).map V.bl).length ≤ 4000 := by rw [List.length_map, List.length_take]; simp; omega
              have fin : ∃ acc, H1 D = some (.lst acc) ∧ acc.length < sizeLine ∧ (upd H1 D (.lst (acc ++ [V.bl (!numD e)]))) D = some (.lst (([!numD d1, !numD d2].take (i + 1)).map V.bl)) ∧ Ext [] H (upd H1 D (.lst (acc ++ [V.bl (!numD e)]))) :=
                ⟨_, hb1, Nat.lt_of_le_of_lt hlen (by decide), by rw [htk, List.map_append]; exact upd_same, n1.own hD⟩
              clear hb1 hlen htk hnum
              cases hde with
              | non => walk_at "run"; refine ⟨rfl, ?_⟩; walk_at "run"; exact fin
              | bl b => walk_at "run"; refine ⟨rfl, ?_⟩; walk_at "run"; exact fin
              | int i => walk_at "run"; refine ⟨rfl, ?_⟩; walk_at "run"; exact fin
              | str x => walk_at "run"; refine ⟨rfl, ?_⟩; walk_at "run"; exact fin
              | lst q g =>
                have q1 := lst0 n1 q
                walk_at "run"; refine ⟨rfl, ?_⟩; walk_at "run"; exact fin
              | tup q g =>
                have q1 := tup0 n1 q
                walk_at "run"; refine ⟨rfl, ?_⟩; walk_at "run"; exact fin
            · rintro H1 ⟨hb1, n1⟩
              clear hnum
              have h' := tup0 n1 h
              walk_at "run"
              refine r_any (bs := [!numD d1, !numD d2]) (.inl (.inl hb1)) ?_
              cases hn1 : numD d1 with
              | false =>
                have k1 := k H1 n1
                rw [amD_1 hn1] at k1
                walk_at "run"
                exact k1
              | true =>
                cases hn2 : numD d2 with
                | false =>
                  have k1 := k H1 n1
                  rw [amD_2 hn2] at k1
                  walk_at "run"
                  exact k1
                | true =>
                  obtain ⟨i, rfl⟩ := numD_int hn1
                  obtain ⟨j, rfl⟩ := numD_int hn2
                  cases h1
                  cases h2
                  have e : amD (.tuple [.int i, .int j]) = (decide (0 ≤ i) && (decide (1 ≤ j) && decide (Nat.gcd i.natAbs j.natAbs = 1))) := rfl
                  rw [e] at k
                  have hs : i.natAbs < 2 ^ 200 ∧ j.natAbs < 2 ^ 200 := by
                    simp only [smAmB, Bool.and_eq_true, decide_eq_true_eq] at hsm
                    exact hsm
                  have h2k : (2 : Nat) ^ 200 ≤ 2 ^ 8900 := Nat.pow_le_pow_right (by decide) (by decide)
                  walk_at "run"
                  refine r_dec (fun h0 => ?_) (fun h0 => ?_)
                  · walk_at "run"
                    refine r_dec (fun h5 => ?_) (fun h5 => ?_)
                    · walk_at "run"
                      have ei : ((i.toNat : Nat) : Int) = i := by omega
                      have ej : ((j.toNat : Nat) : Int) = j := by omega
                      have ei2 : i.natAbs = i.toNat := by omega
                      have ej2 : j.natAbs = j.toNat := by omega
                      rw [ei2] at hs k
                      rw [ej2] at hs k
                      refine ⟨i.toNat, j.toNat, by rw [ei, ej], by omega, Nat.lt_of_lt_of_le hs.1 h2k, Nat.lt_of_lt_of_le hs.2 h2k, fun v3 H3 n3 a3 => ?_⟩
                      walk_at "run"
                      refine ⟨_, _, dp_am a3, .tup (tup0 n3 h') (.cons (.int i) (.cons (.int j) .nil)), rfl, rfl, ?_⟩
                      have e3 : PyData.eqv (.tuple [.int (mkRat ((i.toNat : Nat) : Int) j.toNat).num, .int ((mkRat ((i.toNat : Nat) : Int) j.toNat).den : Int)]) (.tuple [.int i, .int j]) = decide (Nat.gcd i.toNat j.toNat = 1) := by
                        obtain ⟨m1, m2⟩ := mk_parts i.toNat j.toNat (by omega)
                        rw [Bool.eq_iff_iff, decide_eq_true_iff, ← gcd_low (by omega), m1, m2]
                        generalize i.toNat / Nat.gcd i.toNat j.toNat = qa
                        generalize j.toNat / Nat.gcd i.toNat j.toNat = qb
                        simp [PyData.eqv, PyData.eqvAll]
                        omega
                      rw [e3]
                      have k3 := k H3 (n1.trans n3)
                      rw [decide_eq_true h0, decide_eq_true h5] at k3
                      exact k3
                    · have k3 := k H1 n1
                      rw [decide_eq_true h0, decide_eq_false h5] at k3
                      exact k3
                  · have k3 := k H1 n1
                    rw [decide_eq_false h0] at k3
                    exact k3
def spLIsPair (K : PySem.W.Frag) : Sp := fun vs H Q _ => ∃ (v : V) (d : PyData), vs = [v] ∧ Dp K H v d ∧ smB d = true ∧ ∀ H', Ext [] H H' → Q (.bl (pairD d)) H'
end
end Yk

set_option maxHeartbeats 8000000
namespace Yk
open PySem PySem.Spec PyProof.Rows L2

local macro_rules | `(tactic| walk_at "na") => `(tactic| (intro hq; exact BagAt.ne' (K := ‹PySem.W.Frag›) (by assumption) (by walk_at "bag") (List.mem_singleton.mp hq).symm))
local macro_rules | `(tactic| walk_at "dq") => `(tactic| first
  | exact Dq.non
  | exact Dq.bl _
  | exact Dq.int _
  | exact Dq.str _
  | ((refine' Dq.tup ?h1 ?h2); (case h1 => walk_at "sq"); (case h2 => walk_at "dqs"))
  | ((refine' Dq.lst ?h0 ?h1 ?h2); (case h1 => walk_at "sq"); (case h0 => walk_at "na"); (case h2 => walk_at "dqs")))
local macro_rules | `(tactic| walk_at "dqs") => `(tactic| first
  | exact DqAll.nil
  | ((refine' DqAll.cons ?g1 ?g2); (case g1 => walk_at "dq"); (case g2 => walk_at "dqs")))
/-- what any value may be here -/
def okB (d : PyData) : Bool := smB d && smAmB d && strB d
section
variable {K : PySem.W.Frag} {H H1 : Hp}
theorem Dq.b {b : Bag} {v : V} {d : PyData} (hb : BagAt K H b) (e : Ext [b.a] H H1) (h : Dq K [b.a] H v d) : Dq K [b.a] H1 v d := h.x e (fun _ z => z) (bagS hb)
theorem DqAll.b {b : Bag} {v : List V} {d : List PyData} (hb : BagAt K H b) (e : Ext [b.a] H H1) (h : DqAll K [b.a] H v d) : DqAll K [b.a] H1 v d := h.x e (fun _ z => z) (bagS hb)
theorem of_dq {H : Hp} {b : Bag} {l : Addr} {xs : List V} {ds : List PyData} {Q : VK} {E : XK} (hb : BagAt K H b) (hl : SqL K H l xs) (hne : b.a ≠ l) (ha : DqAll K [b.a] H xs ds) (hok : ds.all okB = true) (h0 : 0 < xs.length) (h4 : xs.length ≤ 4000)
    (k : ∀ v d H', Dq K [b.a] H' v d → okB d = true → BagAt K H' b → Ext [b.a] H H' → Q v H') : spOf K [.ref b.a, .ref l] H Q E :=
  ⟨b, l, xs, rfl, hb, hl, hne, h0, h4, fun i v H' hv hb' e => by
    obtain ⟨d, hd, hq⟩ := ha.get hv
    exact k v d H' (hq.b hb e) (List.all_eq_true.mp hok d (List.mem_of_getElem? hd)) hb' e⟩
end
section
variable {P : Program} {w : World} {K : PySem.W.Frag} {mg : Str → Option Value} {base : Heap} {f : Addr} {fd : FuncData}
def spOdd (K : PySem.W.Frag) : Sp := fun vs H Q _ => ∃ (b : Bag), vs = [.ref b.a] ∧ BagAt K H b ∧ ∀ v d H', Dq K [b.a] H' v d → okB d = true → BagAt K H' b → Ext [b.a] H H' → Q v H'
/-- some values in a list -/
structure OddAt (K : PySem.W.Frag) (H H' : Hp) (b : Bag) (n : Nat) (σ : L2.St) : Prop where
  ex : ∃ (p : Addr) (xs : List V) (ds : List PyData), σ = [some (V.ref b.a), some (V.ref p)] ∧ H' p = some (.lst xs) ∧ p ≠ b.a ∧ DqAll K [b.a] H' xs ds ∧ ds.all okB = true ∧ xs.length = n ∧ BagAt K H' b ∧ Ext [] H H'
theorem odd_cat {H H1 H2 : Hp} {b : Bag} {p q : Addr} {xs ys : List V} {ds es : List PyData} {R : VK} (hb : BagAt K H1 b) (e1 : Ext [] H H1) (hp : H1 p = some (.lst xs)) (hx : DqAll K [b.a] H1 xs ds) (ox : ds.all okB = true) (n : Ext [] H1 H2) (hq : H2 q = some (.lst ys)) (hy : DqAll K [b.a] H2 ys es) (oy : es.all okB = true) (hl : xs.length + ys.length ≤ 4000)
    (k : ∀ r H', OddAt K H H' b (xs.length + ys.length) [some (V.ref b.a), some (V.ref r)] → R (.ref r) H') : rCat (.ref p) (.ref q) H2 R := by
  refine ⟨p, q, xs, ys, rfl, rfl, n _ _ hp (fun z => nomatch z), hq, Nat.le_trans hl (by decide), fun r hr => ?_⟩
  have m := (Ext.refl (S := []) (H := H2)).new (o := .lst (xs ++ ys)) hr
  exact k r _ ⟨r, xs ++ ys, ds ++ es, rfl, upd_same, ((hb.x0 n).ne hr).symm, ((hx.x0 n).x0 m).app (hy.x0 m), by rw [List.all_append, ox, oy]; rfl, List.length_append, (hb.x0 n).x0 m, (e1.trans n).trans m⟩
abbrev s_law_odd : Stmt := top 48
theorem c_law_odd : FnScope ["_law_bag_here", "_law_some"] ["_law_bag_here"] (defScope s_law_odd) := ⟨rfl, rfl, rfl, by decide +kernel, rfl, by decide +kernel, by decide +kernel⟩
theorem f_law_odd (F : FunD K "_law_odd" "_law_odd" (defArgs s_law_odd) (defBody s_law_odd) (defScope s_law_odd) [] [] f fd) (hm : mg "_law_odd" = some (.ref f)) (F_law_of : Fn P w K mg base 2 "_law_of" (spOf K)) : Fn P w K mg base 3 "_law_odd" (spOdd K) := by
  refine fn_def F hm c_law_odd (fun vs H Q E h => ?_) (fun _ _ _ _ _ _ us hl => match us, hl with | [_], _ => rfl) (fun cdv A outer s H vs Q E hr h => ?_)
  · obtain ⟨b, rfl, _⟩ := h
    rfl
  · obtain ⟨b, rfl, hb, k⟩ := h
    have nd := c_law_odd.nd
    refine ⟨_, (pss_mid (ps_set (i := 1) nd rfl (by first | exact Or.inl rfl | exact Or.inr rfl) (pe_lst (pa_cons pe_non (pa_cons pe_bl (pa_cons pe_bl (pa_cons pe_int (pa_cons pe_int (pa_cons (pe_un un_neg pe_int) (pa_cons pe_int (pa_cons pe_str (pa_cons pe_str (pa_cons pe_str (pa_cons pe_str (pa_cons (pe_tup pa_nil) (pa_cons (pe_tup (pa_cons pe_int pa_nil)) (pa_cons (pe_tup (pa_cons pe_int (pa_cons pe_int pa_nil))) (pa_cons (pe_tup (pa_cons pe_int (pa_cons pe_int pa_nil))) (pa_cons (pe_lst (pa_cons pe_int (pa_cons pe_int pa_nil))) (pa_cons (pe_tup (pa_cons pe_int (pa_cons pe_int pa_nil))) (pa_cons (pe_tup (pa_cons pe_int (pa_cons pe_int pa_nil))) pa_nil))))))))))))))))))))
      (pss_mid (ps_set (i := 1) nd rfl (by first | exact Or.inl rfl | exact Or.inr rfl) (pe_op op_cat (pv 1) (pe_lst (pa_cons (pe_tup (pa_cons pe_int (pa_cons pe_int pa_nil))) (pa_cons (pe_tup (pa_cons (pe_un un_neg pe_int) (pa_cons pe_int pa_nil))) (pa_cons (pe_tup (pa_cons pe_bl (pa_cons pe_int pa_nil))) (pa_cons (pe_tup (pa_cons pe_int (pa_cons pe_bl pa_nil))) (pa_cons (pe_tup (pa_cons pe_str (pa_cons pe_int pa_nil))) (pa_cons (pe_tup (pa_cons (pe_tup (pa_cons pe_int (pa_cons pe_int pa_nil))) (pa_cons (pe_tup (pa_cons pe_int (pa_cons pe_int pa_nil))) pa_nil))) (pa_cons (pe_tup (pa_cons (pe_tup (pa_cons pe_int (pa_cons pe_int pa_nil))) (pa_cons (pe_tup (pa_cons pe_int (pa_cons pe_int pa_nil))) pa_nil))) (pa_cons (pe_tup (pa_cons pe_non (pa_cons pe_non pa_nil))) pa_nil)))))))))))
      (pss_mid (ps_set (i := 1) nd rfl (by first | exact Or.inl rfl | exact Or.inr rfl) (pe_op op_cat (pv 1) (pe_lst (pa_cons (pe_tup (pa_cons pe_int (pa_cons pe_int (pa_cons pe_int pa_nil)))) (pa_cons (pe_lst pa_nil) (pa_cons (pe_lst (pa_cons (pe_tup pa_nil) pa_nil)) (pa_cons (pe_lst (pa_cons (pe_tup (pa_cons pe_int (pa_cons pe_int pa_nil))) (pa_cons (pe_tup (pa_cons pe_int (pa_cons pe_int pa_nil))) pa_nil))) (pa_cons (pe_tup (pa_cons (pe_tup (pa_cons pe_int (pa_cons pe_int pa_nil))) (pa_cons (pe_lst (pa_cons pe_int (pa_cons pe_int pa_nil))) pa_nil))) (pa_cons (pe_tup (pa_cons (pe_tup (pa_cons pe_int (pa_cons pe_int pa_nil))) pa_nil)) (pa_cons (pe_tup (pa_cons (pe_tup (pa_cons (pe_tup (pa_cons pe_int (pa_cons pe_int pa_nil))) (pa_cons pe_int pa_nil))) (pa_cons (pe_lst (pa_cons pe_int (pa_cons (pe_tup (pa_cons pe_non pa_nil)) pa_nil))) pa_nil))) (pa_cons (pe_un un_neg pe_int) pa_nil)))))))))))
      (pss_mid (ps_set (i := 1) nd rfl (by first | exact Or.inl rfl | exact Or.inr rfl) (pe_op op_cat (pv 1) (pe_lst (pa_cons (pe_tup (pa_cons pe_int (pa_cons (pe_un un_neg pe_int) pa_nil))) (pa_cons (pe_tup (pa_cons pe_int (pa_cons pe_int pa_nil))) (pa_cons (pe_tup (pa_cons (pe_tup (pa_cons pe_int (pa_cons pe_int pa_nil))) (pa_cons (pe_tup (pa_cons pe_int (pa_cons pe_int pa_nil))) pa_nil))) (pa_cons (pe_tup (pa_cons (pe_tup (pa_cons pe_int (pa_cons pe_int pa_nil))) (pa_cons (pe_tup (pa_cons pe_int (pa_cons pe_int pa_nil))) pa_nil))) (pa_cons pe_str (pa_cons pe_str (pa_cons (pe_tup (pa_cons pe_str pa_nil)) (pa_cons (pe_lst (pa_cons pe_str pa_nil)) (pa_cons (pe_tup (pa_cons pe_int (pa_cons pe_int pa_nil))) pa_nil))))))))))))
      (pss_one (ps_ret (pe_fn F_law_of (hr.mono (by decide)) (pa_cons (pv 0) (pa_cons (pv 1) pa_nil))))))))), ?_⟩
    show (_ : TS) _ [some _, none] _
    try dsimp only [cxOf, Cx.nox]
    refine r_mid (fun σ' H' => OddAt K H H' b 18 σ') ?_ ?_
    · walk_at "go"
      refine ⟨_, _, [.none, .bool true, .bool false, .int 0, .int 1, .int (-1), .int 7, .str (Str.ofString ""), .str (Str.ofString "a"), .str (Str.ofString "4"), .str (Str.ofString "1/2"), .tuple [], .tuple [.int 1], .tuple [.int 1, .int 1], .tuple [.int 3, .int 2], .list [.int 1, .int 1], .tuple [.int 2, .int 4], .tuple [.int 0, .int 2]], rfl, upd_same, ?_, ?_, by decide +kernel, rfl, by walk_at "bag", by walk_at "ext"⟩
      · exact (BagAt.ne' (K := K) (by assumption) (by walk_at "bag")).symm
      · walk_at "dqs"
    · rintro σ' H1 ⟨p, xs, ds, rfl, hp, np, hx, ox, lx, b1, e1⟩
      refine r_mid (fun σ' H' => OddAt K H H' b 26 σ') ?_ ?_
      · walk_at "go"
        refine odd_cat b1 e1 hp hx ox (es := [.tuple [.int 1, .int 0], .tuple [.int (-1), .int 1], .tuple [.bool true, .int 1], .tuple [.int 1, .bool true], .tuple [.str (Str.ofString "1"), .int 1], .tuple [.tuple [.int 1, .int 1], .tuple [.int 2, .int 1]], .tuple [.tuple [.int 2, .int 1], .tuple [.int 1, .int 1]], .tuple [.none, .none]]) ?_ upd_same ?_ (by decide +kernel) (by rw [lx]; show _ + (_ + 1) ≤ 4000; simp) fun r H' z => ?_
        · walk_at "ext"
        · walk_at "dqs"
        · rw [lx] at z
          exact z
      · clear hp np hx ox lx b1 e1 p xs ds H1
        rintro σ' H1 ⟨p, xs, ds, rfl, hp, np, hx, ox, lx, b1, e1⟩
        refine r_mid (fun σ' H' => OddAt K H H' b 34 σ') ?_ ?_
        · walk_at "go"
          refine odd_cat b1 e1 hp hx ox (es := [.tuple [.int 1, .int 1, .int 1], .list [], .list [.tuple []], .list [.tuple [.int 1, .int 1], .tuple [.int 2, .int 1]], .tuple [.tuple [.int 1, .int 1], .list [.int 2, .int 1]], .tuple [.tuple [.int 1, .int 1]], .tuple [.tuple [.tuple [.int 1, .int 2], .int 3], .list [.int 4, .tuple [.none]]], .int (-1000)]) ?_ upd_same ?_ (by decide +kernel) (by rw [lx]; show _ + (_ + 1) ≤ 4000; simp) fun r H' z => ?_
          · walk_at "ext"
          · walk_at "dqs"
          · rw [lx] at z
            exact z
        · clear hp np hx ox lx b1 e1 p xs ds H1
          rintro σ' H1 ⟨p, xs, ds, rfl, hp, np, hx, ox, lx, b1, e1⟩
          refine r_mid (fun σ' H' => OddAt K H H' b 43 σ') ?_ ?_
          · walk_at "go"
            refine odd_cat b1 e1 hp hx ox (es := [.tuple [.int 1, .int (-1)], .tuple [.int 0, .int 0], .tuple [.tuple [.int 0, .int 1], .tuple [.int 4, .int 2]], .tuple [.tuple [.int 1, .int 1], .tuple [.int 1, .int 1]], .str (Str.ofString "own"), .str (Str.ofString "level"), .tuple [.str (Str.ofString "a")], .list [.str (Str.ofString "a")], .tuple [.int 1000, .int 1]]) ?_ upd_same ?_ (by decide +kernel) (by rw [lx]; show _ + (_ + 1) ≤ 4000; simp) fun r H' z => ?_
            · walk_at "ext"
            · walk_at "dqs"
            · rw [lx] at z
              exact z
          · clear hp np hx ox lx b1 e1 p xs ds H1
            rintro σ' H1 ⟨p, xs, ds, rfl, hp, np, hx, ox, lx, b1, e1⟩
            walk_at "go"
            exact of_dq b1 (.inl (.inl hp)) np.symm hx ox (by omega) (by omega) fun v d H' hd od b' e => k v d H' hd od b' (e1.of0.trans e)
end
end Yk

set_option maxHeartbeats 1000000
/-! sorted(xs, key=lambda x: x[0]) of tuples whose first items rise already. -/
namespace Yk
open PySem PySem.Spec PySem.Calls PyProof.Rows L2 LamX
/-- x[0] -/
abbrev keyB (x : Str) (j : Nat) (p1 p2 p3 : Pos) : Expr := .Subscript (.Name x p1) (.Constant (.int 0) j p2) p3
/-- a lambda of one name, which captures nothing -/
structure Lam1 (x : Str) (scope : Scope) : Prop where
  kind : scope.kind = .function
  co : scope.isCoroutine = false
  gen : scope.isGenerator = false
  own : scope.names.lookup x = some .local
  cell : ∀ y ∈ scope.names, y.2 ≠ .cell
  free : ∀ y ∈ scope.names, y.2 ≠ .free
def lam1B (x : Str) (scope : Scope) : Bool := decide (scope.kind = .function) && !scope.isCoroutine && !scope.isGenerator && decide (scope.names.lookup x = some .local) && scope.names.all fun y => !decide (y.2 = .cell) && !decide (y.2 = .free)
theorem lam1_by {x : Str} {scope : Scope} (h : lam1B x scope = true) : Lam1 x scope := by
  unfold lam1B at h
  simp only [Bool.and_eq_true, Bool.not_eq_true', decide_eq_true_eq, decide_eq_false_iff_not, List.all_eq_true] at h
  obtain ⟨⟨⟨⟨h1, h2⟩, h3⟩, h4⟩, h5⟩ := h
  exact ⟨h1, h2, h3, h4, fun y hy => (h5 y hy).1, fun y hy => (h5 y hy).2⟩
theorem key_call {prog : Program} {w : World} {A : Around} {s : Shared} {f c' t : Addr} {q x : Str} {params : Arguments} {scope : Scope} {pm ctv : Value} {j : Nat} {p1 p2 p3 : Pos} {items : Array Value} {k : Int} {tok : Tok} (hd : A.depth < recursionLimit) (lim : s.heap.NoLimit) (L : Lam1 x scope)
    (ho : s.heap.get? f = some (PySem.W.kla_obj "<lambda>" q params (keyB x j p1 p2 p3) scope [] pm c' ctv)) (hc : ∃ (oc : Obj) (vs : Array Value) (t : Tok), s.heap.get? c' = some oc ∧ oc.data = .fields vs ∧ vs[1]? = some (.str q t))
    (hbind : bindArgs (PySem.W.kla_fn "<lambda>" q params (keyB x j p1 p2 p3) scope [] pm (.ref c') ctv) ⟨[.ref t], []⟩ = pure [(x, .ref t)]) (it : IsTup s.heap t items) (h0 : items[0]? = some (.int k tok)) (hdb : (x == ("__debug__" : Str)) = false := by decide) :
    wpAny (model prog w) A (call (.ref f) [.ref t]) (PySem.W.KeyPure (.int k) s) (fun _ _ => False) s := by
  obtain ⟨oc, vs, tq, hoc, hdc, hvc⟩ := hc
  refine wpAny_call (PySem.W.kla_callFunE hd ho rfl L.co L.gen rfl ⟨c', oc, vs, tq, rfl, hoc, hdc, hvc⟩ ?_)
  rw [hbind]
  refine wpAny_pure (wpAny_newFunctionEnv L.cell (fun y hy => by rw [List.mem_singleton.mp hy]; exact L.own) (fun h₁ hns hsb => ⟨lim.fresh _ hsb, ?_⟩) L.kind)
  have kp : ∀ b o, s.heap.get? b = some o → h₁.get? b = some o := fun b o e => hsb.extBut b o (Nat.ne_of_lt (Heap.lt_size e)) (Heap.get?_push_of_some _ e)
  show codeAny _ _ (.expr (keyB x j p1 p2 p3) (PySem.W.envX q scope s.heap.objs.size f (.ref c') [])) _ _
  refine PySem.W.kla_codeExpr ?_
  refine Subscript_ (wpAny_Name (wpAny_loadName_local (m := fun y => [(x, Value.ref t)].reverse.lookup y) (v := .ref t) L.kind L.own hns (by simp [List.lookup]) ?_) hdb)
  refine wpAny_Constant_int ?_
  have it' : IsTup h₁ t items := it.keeps kp
  have lt : 0 < items.size := (Array.getElem?_eq_some_iff.mp h0).1
  refine subscriptTail_builtinR (x := .int k tok) it'.typeIs slot_tuple_getitem.lookup (getItem_tuple (j := 0) it' (by decide) (by decide) ?_ h0 ⟨rfl, ?_⟩)
  · exact PySem.StrLaws.seqIndex_nonneg (by decide) (by exact_mod_cast lt)
  · exact ⟨h₁, _, rfl, kp, .int k tok⟩
/-- the items are tuples that begin with these numbers -/
def KeysAre (K : PySem.W.Frag) (H : Hp) (xs : List V) (ks : List Int) : Prop := xs.length = ks.length ∧ ∀ (i : Nat) v k, xs[i]? = some v → ks[i]? = some k → ∃ t tl, v = .ref t ∧ SqT K H t (.int k :: tl)
def tSortL (K : PySem.W.Frag) (T : List (Addr × Str)) (tx : TE) : TE := fun σ H Q => tx σ H fun v H1 => Tabs T H1 ∧ ∀ H2, ExtN H1 H2 → Tabs T H2 → ∃ a xs ks, v = .ref a ∧ SqL K H2 a xs ∧ KeysAre K H2 xs ks ∧ ks.Pairwise (· ≤ ·) ∧
  ∀ p, H2 p = none → Q (.ref p) (upd H2 p (.lst xs))
theorem each_rel {xs : List V} {us : List Value} {ks : List Int} {R : Value → V × Int → Prop} (r : Vals xs us) (hl : xs.length = ks.length) (h : ∀ (i : Nat) v u k, xs[i]? = some v → us[i]? = some u → ks[i]? = some k → R u (v, k)) : PySem.W.EachIs R us (xs.zip ks) := by
  induction r generalizing ks with
  | nil => exact .nil
  | cons r1 r2 ih =>
    cases ks with
    | nil => cases hl
    | cons k ks =>
      exact .cons (h 0 _ _ _ rfl rfl rfl) (ih (by simpa using hl) fun i v u k' a b c => h (i + 1) v u k' a b c)
theorem vals_of_each {xs : List V} {us : List Value} {ks : List Int} (hl : xs.length = ks.length) (h : PySem.W.EachIs (fun (u : Value) (b : V × Int) => RelV b.1 u) us (xs.zip ks)) : Vals xs us := by
  induction xs generalizing us ks with
  | nil => cases h; exact .nil
  | cons v xs ih =>
    cases ks with
    | nil => cases hl
    | cons k ks =>
      cases h with
      | cons h1 h2 => exact .cons h1 (ih (by simpa using hl) h2)
section
variable {X : Cx}
theorem pe_sortL {T : List (Addr × Str)} {c P : Addr} {k j : Nat} {x : Str} {params : Arguments} {scope : Scope} {e : Expr} {tx : TE} {p lpos kpos pos p1 p2 p3 : Pos} (hg : Gl X "sorted") (hm : X.mg "sorted" = none) (he : PE X e tx)
    (TB : TabB X.base X.mg c P) (hcode : X.env.code = .ref c) (hmT : (P, X.env.qual ++ "<lambda>") ∈ T) (hu : ∀ p ∈ T, p.1 = P → p.2 = X.env.qual ++ "<lambda>") (hr : Room (k + 1) X.A) (L : Lam1 x scope) (hdef : defaultsOf params X.env = ([], []))
    (hbind : ∀ (q : Str) (pm cv ctv u : Value), bindArgs (PySem.W.kla_fn "<lambda>" q params (keyB x j p1 p2 p3) scope [] pm cv ctv) ⟨[u], []⟩ = pure [(x, u)]) (hcl : cloFrom X.env.cells scope.names [] = []) (hdb : (x == ("__debug__" : Str)) = false := by decide)
    (hst : backTo pos (starEach [e] X.env) = (false, eval e X.env) :: backTo pos (starEach [] X.env) := by rfl) (hpl : (backTo pos (starEach [e] X.env)).any (·.1) = false := by rfl) :
    PE X (.Call (.Name "sorted" p) [e] [⟨some "key", .Lambda params (keyB x j p1 p2 p3) scope lpos, kpos⟩] pos) (tSortL X.K T tx) := by
  refine ⟨fun pins s σ H Q I h => ?_⟩
  refine wpAny_Call_Name_kw (ld_blt I hg hm PyProof.Rows.boot_sorted ?_)
  refine PyProof.Rows.callWith_kw ?_ hst hpl (by rfl) (by rfl)
  rw [hst]
  refine spliced_cons (thn (he.run pins s σ H _ I h) fun u s1 ⟨v, H1, I1, r1, hT, q1⟩ => ?_)
  refine spliced_nil ?_
  show wpAny _ _ (evalAll [(do let v ← eval (.Lambda params (keyB x j p1 p2 p3) scope lpos) X.env; standAt pos; pure v)]) _ _ s1
  refine wpAny_evalAll_cons (wpAny_bind (lam_make2 I1 TB hcode hmT hu hT hdef (fun y hy z => absurd z (L.free y hy)) fun f c' pm ctv H2 s2 I2 eN T2 hf hfn hfr hco => wpAny_bind (wpAny_standAt (wpAny_pure ?_))))
  refine wpAny_evalAll_nil ?_
  show wpAny _ _ (call (.builtin "sorted") [u] [("key", .ref f)]) _ _ s2
  obtain ⟨a, xs, ks, rfl, ha, hk, hpw, q⟩ := q1 H2 eN T2
  cases r1
  obtain ⟨its, rv, hl, hz⟩ := I2.list ha
  have lxs := rv.length
  obtain ⟨lk, hk⟩ := hk
  have lz : (xs.zip ks).length = xs.length := by rw [List.length_zip]; omega
  have hf2 := hf
  rw [hcl] at hf2
  obtain ⟨oc, vs, t0, hoc, hdc, hvc⟩ := (I2.hok c' _ hco).1
  have hit : PySem.W.EachIs (fun (u : Value) (b : V × Int) => RelV b.1 u ∧ ∃ t items tok, u = .ref t ∧ IsTup s2.heap t items ∧ items[0]? = some (.int b.2 tok)) its (xs.zip ks) := each_rel rv lk fun i v u k e1 e2 e3 => by
    obtain ⟨t, tl, rfl, ht⟩ := hk i v k e1 e3
    obtain ⟨u', e4, r4⟩ := rv.get e1
    rw [e2] at e4
    cases e4
    cases r4
    obtain ⟨its2, r2, p2, _⟩ := I2.tuple ht
    cases r2 with
    | cons r5 r6 =>
      obtain ⟨tok, rfl⟩ := r5
      exact ⟨rfl, t, _, tok, rfl, p2, rfl⟩
  refine PySem.W.sorted_key_data (b := false) (kw := [("key", .ref f)]) (k := fun b : V × Int => .int b.2) hl.isList hit (fun d hd d' hd' => ?_) (.inr fun d hd => ?_) (by rw [lz]; exact hz) (fun b _ => ?_) (PyProof.Rows.ksk_s1 _ _) (fun _ => PyProof.Rows.ksk_l1 _ _) (fun _ => PyProof.Rows.ksk_t1 _ _) (fun v b hR _ h tk kp => ?_) fun out c0 h' tk kp hfree hob hlo hE => ?_
  · obtain ⟨b, _, rfl⟩ := List.mem_map.mp hd
    obtain ⟨b', _, rfl⟩ := List.mem_map.mp hd'
    rfl
  · obtain ⟨b, _, rfl⟩ := List.mem_map.mp hd
    exact ⟨(fun z => nomatch z), (fun _ z => nomatch z)⟩
  · have := hr.un
    show X.A.units + 2 + (PyData.int b.2).depth < cLine
    have : (PyData.int b.2).depth ≤ 1 := by simp [PyData.depth]
    omega
  · obtain ⟨_, t, items, tok, rfl, it, h0⟩ := hR
    exact key_call (s := { s2 with heap := h, toks := tk }) (x := x) (by have := hr.dp; show X.A.depth < _; omega) (I2.nolimit.keeps kp) L (kp _ _ hf2) ⟨oc, vs, t0, kp _ _ hoc, hdc, hvc⟩ (hbind _ _ _ _ _) (it.keeps kp) h0 hdb
  · rw [PySem.W.dataLe_int, List.mergeSort_of_pairwise ?_] at hE
    · have rv2 : Vals xs out := vals_of_each lk (hE.mono fun _ _ z => z.1)
      exact ⟨.ref _, upd H2 (s2.heap.objs.size + 1) (.lst xs), I2.laid (t' := tk) kp (Nat.le_succ _) ⟨hz, out, c0, rv2, hob⟩, rfl, q _ (I2.hok.fresh (Nat.le_succ _))⟩
    · rw [List.pairwise_iff_getElem]
      intro i j hi hj hij
      simp only [List.getElem_zip, decide_eq_true_eq]
      exact (List.pairwise_iff_getElem.mp hpw) i j _ _ hij
end
/-- a def whose code object is known -/
theorem fn_defC {P : Program} {w : World} {K : PySem.W.Frag} {mg : Str → Option Value} {base : Heap} {x : Str} {params : Arguments} {body : List Stmt} {scope : Scope} {f c : Addr} {fd : FuncData} {N ps : List Str} {k : Nat} {sp : Sp}
    (F : FunD K x x params body scope [] [] f fd) (hm : mg x = some (.ref f)) (hc : fd.code = .ref c) (S : FnScope N ps scope) (len : ∀ vs H Q E, sp vs H Q E → vs.length = ps.length)
    (hb : ∀ (kV doc pm : Value) (an : Option Addr) (cdv ct : Value) (us : List Value), us.length = ps.length → bindArgs (PySem.W.fnOf x x params body scope .none kV doc pm an cdv ct) ⟨us, []⟩ = pure (ps.zip us))
    (hbody : ∀ (A : Around) (outer : List Env) (s : Shared) (H : Hp) (vs : List V) (Q : VK) (E : XK), Room k (A.deeper (envOfC x scope s.heap.objs.size f (.ref c))) → sp vs H Q E →
      ∃ t, PSs (cxOf CX0 P w K mg base N x scope f (.ref c) A outer s H E).nox body t ∧ t ⟨fun _ H' => Q .non H', Q, fun _ _ => False, fun _ _ => False⟩ (start N vs) H) : Fn P w K mg base (k + 1) x sp := by
  have G : FnOk P w K mg base CX0 (k + 1) f fd ps sp := by
    obtain ⟨a1, a2, a3, a4, a5, a6, a7, cdv, a9, a10, e, lk, hcd, _⟩ := F.ex
    subst e
    obtain rfl : cdv = .ref c := hc
    exact fn_of lk hcd S len fun A outer s H vs Q E hr h => by
      obtain ⟨t, h1, h2⟩ := hbody A outer s H vs Q E hr h
      exact ⟨t, h1.nox, h2⟩
  have R := G.raw (F.bindsN hb) .nil
  refine ⟨f, hm, F.kp, R.imp fun vs H Q E h => ?_⟩
  rw [List.append_nil]
  exact h
theorem r_sortL {K : PySem.W.Frag} {T : List (Addr × Str)} {tx : TE} {σ : L2.St} {H : Hp} {Q : VK} (h : tx σ H fun v H1 => Tabs T H1 ∧ ∀ H2, ExtN H1 H2 → Tabs T H2 → ∃ a xs ks, v = .ref a ∧ SqL K H2 a xs ∧ KeysAre K H2 xs ks ∧ ks.Pairwise (· ≤ ·) ∧
  ∀ p, H2 p = none → Q (.ref p) (upd H2 p (.lst xs))) : tSortL K T tx σ H Q := h
abbrev CT (P0 : Addr) : List (Addr × Str) := [(P0, ("_law_extras" : Str) ++ ".<locals>." ++ "<lambda>")]
theorem tupE {K : PySem.W.Frag} {H H1 : Hp} {a : Addr} {xs : List V} (e : ExtN H H1) (h : SqT K H a xs) : SqT K H1 a xs := by
  rcases h with (h | ⟨o, h⟩) | h
  · exact .inl (.inl (e _ _ h fun _ z => nomatch z))
  · exact .inl (.inr ⟨o, e _ _ h fun _ z => nomatch z⟩)
  · exact .inr h
theorem lstE {K : PySem.W.Frag} {H H1 : Hp} {a : Addr} {xs : List V} (e : ExtN H H1) (h : SqL K H a xs) : SqL K H1 a xs := by
  rcases h with (h | ⟨o, h⟩) | h
  · exact .inl (.inl (e _ _ h fun _ z => nomatch z))
  · exact .inl (.inr ⟨o, e _ _ h fun _ z => nomatch z⟩)
  · exact .inr h
end Yk

set_option maxHeartbeats 1000000
/-! Defs that may raise, called by place or by names; a lambda handed to a def that catches. -/
namespace Yk
open PySem PySem.Spec PyProof.Rows L2 LamX
section
variable {P : Program} {w : World} {K : PySem.W.Frag} {mg : Str → Option Value} {base : Heap} {k : Nat} {f : Addr} {fd : FuncData} {ps : List Str} {sp : Sp}
theorem cx_LN {outer : List Env} {H : Hp} {s : Shared} {E : XK} {u : Value} {s' : Shared} (h : L2N.CX P w outer H s E u s') : L2.CX P w outer H s E u s' := by
  obtain ⟨a, B, H', cls, d, e, ⟨f1, f2, f3, oe, vs, T, oT, ts, g1, g2, g3⟩, r⟩ := h
  exact ⟨a, B, H', cls, d, e, ⟨f1, f2, f3, oe, vs, T, oT, ts, g1, g2.zc, g3⟩, r⟩
theorem ok_L (F : FnOk P w K mg base (L2N.CX P w) k f fd ps sp) : FnOk P w K mg base (L2.CX P w) k f fd ps sp :=
  ⟨F.len, fun A outer s H args us vs Q E hr he hb hv hs => codeAny_mono (F.run A outer s H args us vs Q E hr he hb hv hs) fun r s' hq => by
    cases r with
    | error e => exact cx_LN hq
    | ok fl => cases fl <;> exact hq⟩
end
section
variable (P : Program) (w : World) (K : PySem.W.Frag) (mg : Str → Option Value) (base : Heap)
/-- a def called with n values and these names -/
structure FnG (CX : CXT) (k : Nat) (x : Str) (n : Nat) (ks : List Str) (gV : List V → List V → List V) (sp : Sp) : Prop where
  run : ∃ f fd ps g, mg x = some (.ref f) ∧ PySem.W.keepIn K (.ref f) = true ∧ FnOk P w K mg base CX k f fd ps sp ∧ KBn K fd ps n ks g gV
end
section
variable {X : Cx} {CX : CXT} {k n : Nat} {sp : Sp} {x : Str} {p pos : Pos} {ks : List Str} {gV : List V → List V → List V} {kws : List Keyword} {e : Expr} {es : List Expr} {t tk : TA} {E : XK}
def tG (n m : Nat) (gV : List V → List V → List V) (sp : Sp) (E : XK) (t tk : TA) : TE := fun σ H Q => t σ H fun vs H1 => tk σ H1 fun zs H2 => vs.length = n ∧ zs.length = m ∧ sp (gV vs zs) H2 Q E
theorem pe_g (F : FnG X.prog X.w X.K X.mg X.base CX k x n [] gV sp) (hr : Room k X.A) (hx : Passes CX X E) (ha : PA X (e :: es) t) (hg : Gl X x := by rfl) (hdb : (x == ("__debug__" : Str)) = false := by decide)
    (he : starEach (e :: es) X.env = (false, eval e X.env) :: starEach es X.env := by rfl) (hpl : (backTo pos (starEach es X.env)).any (·.1) = false := by rfl) :
    PE X (.Call (.Name x p) (e :: es) [] pos) (tG n 0 gV sp E t tNil) := by
  obtain ⟨f, fd, ps, g, hm, hk, F, hb⟩ := F.run
  refine ⟨fun pins s σ H Q I h => ?_⟩
  refine wpAny_Call_Name_kw (ld_glob I hg hm ?_ hdb)
  refine PySem.W.callWith_K (h₀ := X.base) I.ok.mod.kin hk (thn (ha.run pos pins s σ H _ I h) fun us s1 ⟨vs, H1, I1, r, l1, l2, q⟩ => ⟨I1.kIn, ?_⟩) he hpl
  exact run_fnN (ws := []) (zs := []) F hr hb hx I1 r .nil l1 l2 q
theorem pe_gK (F : FnG X.prog X.w X.K X.mg X.base CX k x 0 ks gV sp) (hr : Room k X.A) (hx : Passes CX X E) (hkw : PK X kws tk) (hg : Gl X x := by rfl) (hdb : (x == ("__debug__" : Str)) = false := by decide)
    (hall : (backToKw pos (keywordEach kws X.env)).all (·.1.isSome) = true := by rfl) (hks : (backToKw pos (keywordEach kws X.env)).filterMap (·.1) = ks := by rfl)
    (hpl : ((backTo pos (starEach [] X.env)).any (·.1) || (backToKw pos (keywordEach kws X.env)).any (·.1.isNone)) = false := by rfl) :
    PE X (.Call (.Name x p) [] kws pos) (tG 0 ks.length gV sp E tNil tk) := by
  obtain ⟨f, fd, ps, g, hm, hk, F, hb⟩ := F.run
  refine ⟨fun pins s σ H Q I h => ?_⟩
  refine wpAny_Call_Name_kw (ld_glob I hg hm ?_ hdb)
  refine PySem.W.callWith_KW0 (h₀ := X.base) I.ok.mod.kin hk hall ?_ hpl
  refine thn (hkw.run pos pins s σ H _ I h) fun ws s2 ⟨zs, H2, I2, rz, l1, l2, q2⟩ => ⟨I2.kIn, ?_⟩
  rw [hks]
  exact run_fnN (us := []) (vs := []) F hr hb hx I2 .nil rz l1 l2 q2
end
section
variable {X : Cx} {k : Nat} {sp : Sp} {x : Str} {p pos : Pos}
theorem pe_fn0 (F : Fn X.prog X.w X.K X.mg X.base k x sp) (hr : Room k X.A) (hg : Gl X x := by rfl) (hdb : (x == ("__debug__" : Str)) = false := by decide) (hx : Passes CX0 X E0 := by exact pass0) : PE X (.Call (.Name x p) [] [] pos) (tR sp tNil) := by
  obtain ⟨f, hm, hk, F⟩ := F.run
  refine ⟨fun pins s σ H Q I h => ?_⟩
  refine wpAny_Call_Name_kw (ld_glob I hg hm ?_ hdb)
  exact PySem.W.callWith_K0 I.kIn hk (wpAny_call (run_fnR (us := []) (vs := []) F hr hx I .nil h))
end
/-! the caught error's class, its context whatever it is -/
section
variable {X : Cx} {D a : Addr} {oe : Obj} {cls : Value} {d : Option Addr} {pn : List (Addr × Obj)}
theorem call_isXc (Y : Xc X.K X.mg x D) (hz : Zc cls d oe) (hf : ∃ vs, oe.data = .fields vs) : CallR (X.suite a ((a, oe) :: pn)) (.builtin "isinstance") (rIsX X.K D a cls d) := by
  intro pins s σ H xs us Q I r h
  obtain ⟨c, cv, b, dd, fs, rfl, hcv, e, rfl, rfl, hd, q⟩ := h
  cases r with
  | cons rx rr =>
    cases rr with
    | cons rt rr =>
      cases rr
      cases rx
      have ec := hcv _ rt
      subst ec
      obtain ⟨hget, _⟩ := I.pin (a, oe) (List.mem_append.mpr (.inl List.mem_cons_self))
      obtain ⟨vs, hv⟩ := hf
      have hx : ObjOk X.prog X.w H s.heap dd (.xd fs) := I.hok dd _ hd
      obtain ⟨mA, hns, _⟩ := hx
      obtain ⟨od, ho, _⟩ := lookIn_ns hns
      have J : PySem.W.InstAt s.heap a oe D (some od) := ⟨hget, hz.1, by unfold PySem.W.notCls; rw [hv] <;> rfl, by rw [hz.2]; exact ho⟩
      exact PySem.W.kia_one (PySem.W.kitx_exc Y.cl Y.xf.ga Y.xf.gg Y.xf.exC Y.ha Y.hn Y.ht Y.ho) I.kIn J e (fun z => nomatch z) fun tk => ⟨.bl b, H, I.kept (t' := tk) fun _ _ z => z, rfl, q⟩
end
/-- isinstance of the caught error, one of two classes -/
def rIsX2 (K : PySem.W.Frag) (D1 D2 a : Addr) (cls : Value) (d : Option Addr) : List V → Hp → VK → Prop := fun xs H Q => ∃ (c : V) (cv : Value) (b : Bool) (D dd : Addr) (fs : List (Str × V)), xs = [.ref a, c] ∧ (∀ u, RelV c u → u = cv) ∧ (D = D1 ∨ D = D2) ∧ PySem.W.kitOne K (.ref D) cv = some b ∧ cls = .ref D ∧ d = some dd ∧ H dd = some (.xd fs) ∧ Q (.bl b) H
theorem call_isX2 {X : Cx} {D1 D2 a : Addr} {x1 x2 : Str} {oe : Obj} {cls : Value} {d : Option Addr} {pn : List (Addr × Obj)} (Y1 : Xc X.K X.mg x1 D1) (Y2 : Xc X.K X.mg x2 D2) (hz : Zc cls d oe) (hf : ∃ vs, oe.data = .fields vs) : CallR (X.suite a ((a, oe) :: pn)) (.builtin "isinstance") (rIsX2 X.K D1 D2 a cls d) := by
  intro pins s σ H xs us Q I r h
  obtain ⟨c, cv, b, D, dd, fs, ex, hcv, hD, h⟩ := h
  rcases hD with e | e
  · subst e
    exact call_isXc Y1 hz hf pins s σ H xs us Q I r ⟨c, cv, b, dd, fs, ex, hcv, h⟩
  · subst e
    exact call_isXc Y2 hz hf pins s σ H xs us Q I r ⟨c, cv, b, dd, fs, ex, hcv, h⟩
/-! a def that calls what it got -/
structure LamF (P : Program) (w : World) (K : PySem.W.Frag) (mg : Str → Option Value) (base : Heap) (x a : Str) (TT : (XK → Hp → VK → Prop) → Hp → VK → Prop) : Prop where
  run : ∃ (g : Addr) (pg : Arguments) (bg : List Stmt) (sg : Scope) (dV kV doc pm cdv ct oc : Value) (an od : Option Addr) (osl : Array (Option Value)) (Ng : List Str),
    mg x = some (.ref g) ∧ PySem.W.keepIn K (.ref g) = true ∧ K.lookup g = some ⟨oc, od, .func (PySem.W.fnOf x x pg bg sg dV kV doc pm an cdv ct), osl⟩ ∧ PySem.W.codeIn K cdv x = true ∧ Binds K (PySem.W.fnOf x x pg bg sg dV kV doc pm an cdv ct) [a] [] ∧ FnScope Ng [a] sg ∧ Ng[0]? = some a ∧ Vis sg a ∧
      (a == ("__debug__" : Str)) = false ∧ (a == ("__classdict__" : Str)) = false ∧ ∀ (X : Cx) (q : Str), X.prog = P → X.w = w → X.K = K → X.mg = mg → X.base = base → GivesTo X Ng x sg g cdv bg a q TT
section
variable {X : Cx}
theorem pe_lamT {T : List (Addr × Str)} {TT : (XK → Hp → VK → Prop) → Hp → VK → Prop} {x a : Str} {c P : Addr} {k : Nat} {params : Arguments} {body : Expr} {scope : Scope} {t : XK → TE} {p lpos pos : Pos} (F : LamF X.prog X.w X.K X.mg X.base x a TT)
    (TB : TabB X.base X.mg c P) (hcode : X.env.code = .ref c) (hmT : (P, X.env.qual ++ "<lambda>") ∈ T) (hu : ∀ p ∈ T, p.1 = P → p.2 = X.env.qual ++ "<lambda>") (hr : Room (k + 2) X.A) (L : LamS X.env.scope scope) (hdef : defaultsOf params X.env = ([], []))
    (hbind : ∀ (q : Str) (cl : List (Str × Addr)) (pm cv ctv : Value), bindArgs (PySem.W.kla_fn "<lambda>" q params body scope cl pm cv ctv) ⟨[], []⟩ = pure [])
    (hbody : ∀ (A : Around) (outer : List Env) (s : Shared) (H : Hp) (E : XK) (f c' : Addr), Room k (A.deeper (lamEnv X scope s.heap.objs.size f c')) → PE (lamCx X A outer s H E scope f c') body (t E))
    (hg : Gl X x := by rfl) (hdb : (x == ("__debug__" : Str)) = false := by decide) :
    PE X (.Call (.Name x p) [.Lambda params body scope lpos] [] pos) (tLam T TT t) := by
  obtain ⟨g, pg, bg, sg, dV, kV, doc, pm, cdv, ct, oc, an, od, osl, Ng, hm, hk, lk, hcg, hb, Sg, hNg, hva, hd, hcd, hG⟩ := F.run
  exact pe_lamcall (k := k) hg hm hk lk hcg hb Sg hNg hva (hG X _ rfl rfl rfl rfl rfl) TB hcode hmT hu hr L hdef hbind hbody hdb hd hcd
theorem pass_lam {A : Around} {outer : List Env} {s : Shared} {H : Hp} {E : XK} {scope : Scope} {f c' : Addr} : Passes (L2.CX X.prog X.w) (lamCx X A outer s H E scope f c') E :=
  passes_call (X := lamCx X A outer s H E scope f c') (W := fun cls d _ H => E cls d H) (takes_of rfl rfl rfl rfl) fun _ _ _ _ h => h
theorem r_tLam {T : List (Addr × Str)} {TT : (XK → Hp → VK → Prop) → Hp → VK → Prop} {t : XK → TE} {σ : L2.St} {H : Hp} {Q : VK} (h : Tabs T H ∧ ∀ H1, ExtN H H1 → Tabs T H1 → TT (fun E H' Q' => t E σ H' Q') H1 Q) : tLam T TT t σ H Q := h
theorem r_tG {n m : Nat} {gV : List V → List V → List V} {sp : Sp} {E : XK} {t tk : TA} {σ : L2.St} {H : Hp} {Q : VK} (h : t σ H fun vs H1 => tk σ H1 fun zs H2 => vs.length = n ∧ zs.length = m ∧ sp (gV vs zs) H2 Q E) : tG n m gV sp E t tk σ H Q := h
end
theorem r_ostX {nx : L2.St → Hp → Prop} {rt : VK} {bk ct : L2.St → Hp → Prop} {σ : L2.St} {H : Hp} {K : PySem.W.Frag} {f : Str} {to te : TE} (h : te σ H fun y H1 => to σ H1 fun x H2 => ∃ a C : Addr, x = .ref a ∧ OexC K C ∧ PySem.W.findIn K (.ref C) f = some none ∧
  ((H2 a = some (exo a C none) ∧ ∀ dx, H2 dx = none → dx ≠ a → nx σ (upd (upd H2 dx (exd dx [(f, y)])) a (exo a C (some dx)))) ∨
    ∃ (dx : Addr) (fs : List (Str × V)), H2 a = some (exo a C (some dx)) ∧ H2 dx = some (exd dx fs) ∧ fs.length ≤ 900 ∧ nx σ (upd H2 dx (exd dx ((f, y) :: fs))))) : tOst K f to te ⟨nx, rt, bk, ct⟩ σ H := h
/-- nothing raised -/
def sp0 (sp : Sp) : Sp := fun vs H Q _ => sp vs H Q E0
section
variable {P : Program} {w : World} {K : PySem.W.Frag} {mg : Str → Option Value} {base : Heap} {k : Nat} {f : Addr} {fd : FuncData} {ps : List Str} {sp : Sp}
theorem ok_0 (F : FnOk P w K mg base (L2N.CX P w) k f fd ps sp) : FnOk P w K mg base CX0 k f fd ps (sp0 sp) :=
  ⟨fun vs H Q E h => F.len vs H Q E0 h, fun A outer s H args us vs Q E hr he hb hv hs => codeAny_mono (F.run A outer s H args us vs Q E0 hr he hb hv hs) fun r s' hq => by
    cases r with
    | error e =>
      obtain ⟨_, _, _, _, _, _, _, _, _, _, _, _, z⟩ := hq
      exact z.elim
    | ok fl => cases fl <;> exact hq⟩
variable {x : Str} {params : Arguments} {body : List Stmt} {scope : Scope}
theorem kb_pos (F : FunD K x x params body scope [] [] f fd) (n : Nat) (hb : ∀ (kV doc pm : Value) (an : Option Addr) (cdv ct : Value) (us : List Value), us.length = n → bindArgs (PySem.W.fnOf x x params body scope .none kV doc pm an cdv ct) ⟨us, []⟩ = pure (ps.zip us)) :
    KBn K fd ps n [] (fun us _ => us) (fun vs _ => vs) := by
  refine ⟨fun s us ws hK l1 l2 => ?_, fun r1 _ => r1⟩
  obtain ⟨oc, od, dV, kV, doc, pm, an, cdv, ct, osl, rfl, lk, hcd, hD, _⟩ := F.ex
  rcases hD with ⟨_, rfl⟩ | ⟨e, _⟩
  · exact .of_eq (hb kV doc pm an cdv ct us l1)
  · exact absurd rfl e
theorem kb_sw {p1 p2 : Str} (F : FunD K x x params body scope [] [] f fd) (hb : ∀ (kV doc pm : Value) (an : Option Addr) (cdv ct : Value) (a b : Value), bindArgs (PySem.W.fnOf x x params body scope .none kV doc pm an cdv ct) ⟨[], [(p2, a), (p1, b)]⟩ = pure [(p1, b), (p2, a)]) :
    KBn K fd [p1, p2] 0 [p2, p1] sw2 sw2 := by
  refine ⟨fun s us ws hK l1 l2 => ?_, sw2_rel⟩
  obtain ⟨oc, od, dV, kV, doc, pm, an, cdv, ct, osl, rfl, lk, hcd, hD, _⟩ := F.ex
  rcases hD with ⟨_, rfl⟩ | ⟨e, _⟩
  · match us, ws, l1, l2 with
    | [], [a, b], _, _ => exact .of_eq (hb kV doc pm an cdv ct a b)
  · exact absurd rfl e
end
abbrev CT2 (P1 P2 : Addr) : List (Addr × Str) := [(P1, ("_law_made_so" : Str) ++ ".<locals>." ++ "<lambda>"), (P2, ("_law_two_so" : Str) ++ ".<locals>." ++ "<lambda>")]
theorem ct2_m1 {P1 P2 : Addr} : (P1, ("_law_made_so" : Str) ++ ".<locals>." ++ "<lambda>") ∈ CT2 P1 P2 := List.mem_cons_self
theorem ct2_m2 {P1 P2 : Addr} : (P2, ("_law_two_so" : Str) ++ ".<locals>." ++ "<lambda>") ∈ CT2 P1 P2 := List.mem_cons_of_mem _ List.mem_cons_self
theorem ct2_1 {P1 P2 : Addr} (h : P1 ≠ P2) : ∀ p ∈ CT2 P1 P2, p.1 = P1 → p.2 = ("_law_made_so" : Str) ++ ".<locals>." ++ "<lambda>" := fun p hp e => by
  simp only [CT2, List.mem_cons, List.not_mem_nil, or_false] at hp
  rcases hp with rfl | rfl
  · rfl
  · exact absurd e.symm h
theorem ct2_2 {P1 P2 : Addr} (h : P1 ≠ P2) : ∀ p ∈ CT2 P1 P2, p.1 = P2 → p.2 = ("_law_two_so" : Str) ++ ".<locals>." ++ "<lambda>" := fun p hp e => by
  simp only [CT2, List.mem_cons, List.not_mem_nil, or_false] at hp
  rcases hp with rfl | rfl
  · exact absurd e h
  · rfl
/-- told: ['told', a()], or the error's name and its field -/
def TTold (cA cS : Addr) : (XK → Hp → VK → Prop) → Hp → VK → Prop := fun tl H Q =>
  tl (fun cls d H' => ∃ (dd : Addr) (v : V), d = some dd ∧ ((cls = .ref cA ∧ H' dd = some (.xd [("value", v)]) ∧ ∀ D, H' D = none → Q (.ref D) (upd H' D (.lst [.str "BadAmount", v]))) ∨
    (cls = .ref cS ∧ H' dd = some (.xd [("amount", v)]) ∧ ∀ D, H' D = none → Q (.ref D) (upd H' D (.lst [.str "Short", v]))))) H
    (fun v H' => [V.str "told", v].length ≤ sizeLine ∧ ∀ D, H' D = none → Q (.ref D) (upd H' D (.lst [.str "told", v])))
end Yk

set_option maxHeartbeats 4000000
namespace Yk
open PySem PySem.Spec PyProof.Rows L2

/-! The errors, and the three defs of amounts that raise them. -/
local macro_rules | `(tactic| walk_at "st") => `(tactic| first
  | with_reducible refine' r_ostX ?_
  | with_reducible refine' r_raise1 ?_)
def nnD : PyData → Bool
  | .int i => decide (0 ≤ i)
  | _ => false
def posD : PyData → Bool
  | .int i => decide (1 ≤ i)
  | _ => false
theorem nnD_n {d : PyData} (h : numD d = false) : nnD d = false := by
  cases d with
  | int i => exact absurd h (by simp [numD])
  | _ => rfl
theorem posD_n {d : PyData} (h : numD d = false) : posD d = false := by
  cases d with
  | int i => exact absurd h (by simp [numD])
  | _ => rfl
section
variable {P : Program} {w : World} {K : PySem.W.Frag} {mg : Str → Option Value} {base : Heap} {f : Addr} {fd : FuncData}
abbrev s_BadAmount___init__ : Stmt := inClass (top 7) 0
theorem c_BadAmount___init__ : FnScope ["self", "value"] ["self", "value"] (defScope s_BadAmount___init__) := ⟨rfl, rfl, rfl, by decide +kernel, rfl, by decide +kernel, by decide +kernel⟩
theorem f_BadAmount___init__ (F : FunD K "__init__" "BadAmount.__init__" (defArgs s_BadAmount___init__) (defBody s_BadAmount___init__) (defScope s_BadAmount___init__) [] [] f fd) {cA : Addr} (YBadAmount : Xc K mg "BadAmount" cA) (NBadAmount_value : PySem.W.findIn K (.ref cA) "value" = some none) : FnOk P w K mg base CX0 1 f fd ["self", "value"] (spInit1 cA "value") := by
  refine ok_meth F c_BadAmount___init__ (fun vs H Q E h => ?_) (fun cdv A outer s H vs Q E hr h => ?_)
  · obtain ⟨a, v, rfl, _⟩ := h
    rfl
  · obtain ⟨a, v, rfl, ha, k⟩ := h
    have nd := c_BadAmount___init__.nd
    refine ⟨_, (pss_one (ps_ost (pv 0) (pv 1))), ?_⟩
    show (_ : TS) _ [some _, some _] _
    try dsimp only [cxOf, Cx.nox]
    walk_at "run"
    exact ⟨a, cA, rfl, YBadAmount.oe, NBadAmount_value, .inl ⟨ha, fun d hd hda => k d hd hda⟩⟩
abbrev s_Short___init__ : Stmt := inClass (top 8) 0
theorem c_Short___init__ : FnScope ["self", "amount"] ["self", "amount"] (defScope s_Short___init__) := ⟨rfl, rfl, rfl, by decide +kernel, rfl, by decide +kernel, by decide +kernel⟩
theorem f_Short___init__ (F : FunD K "__init__" "Short.__init__" (defArgs s_Short___init__) (defBody s_Short___init__) (defScope s_Short___init__) [] [] f fd) {cS : Addr} (YShort : Xc K mg "Short" cS) (NShort_amount : PySem.W.findIn K (.ref cS) "amount" = some none) : FnOk P w K mg base CX0 1 f fd ["self", "amount"] (spInit1 cS "amount") := by
  refine ok_meth F c_Short___init__ (fun vs H Q E h => ?_) (fun cdv A outer s H vs Q E hr h => ?_)
  · obtain ⟨a, v, rfl, _⟩ := h
    rfl
  · obtain ⟨a, v, rfl, ha, k⟩ := h
    have nd := c_Short___init__.nd
    refine ⟨_, (pss_one (ps_ost (pv 0) (pv 1))), ?_⟩
    show (_ : TS) _ [some _, some _] _
    try dsimp only [cxOf, Cx.nox]
    walk_at "run"
    exact ⟨a, cS, rfl, YShort.oe, NShort_amount, .inl ⟨ha, fun d hd hda => k d hd hda⟩⟩
def spAmountX (cA : Addr) (K : PySem.W.Frag) : Sp := fun vs H Q E => ∃ (v1 v2 : V) (d1 d2 : PyData), vs = [v1, v2] ∧ Dp K H v1 d1 ∧ Dp K H v2 d2 ∧ (nnD d1 = false → ∀ d, H d = none → E (.ref cA) (some d) (upd H d (.xd [("value", v1)]))) ∧
  (nnD d1 = true → posD d2 = false → ∀ d, H d = none → E (.ref cA) (some d) (upd H d (.xd [("value", v2)]))) ∧ ∀ a b : Nat, d1 = .int (a : Int) → d2 = .int (b : Int) → 0 < b → b < 2 ^ 4000 ∧ RetAm K H Q (mkRat (a : Int) b)
abbrev s_amount : Stmt := top 15
theorem c_amount : FnScope ["top", "bottom", "common"] ["top", "bottom"] (defScope s_amount) := ⟨rfl, rfl, rfl, by decide +kernel, rfl, by decide +kernel, by decide +kernel⟩
theorem x_amount (F : FunD K "amount" "amount" (defArgs s_amount) (defBody s_amount) (defScope s_amount) [.int 1] [] f fd) {cA : Addr} (T : Bg mg) (Fis_number : Fn P w K mg base 1 "is_number" (spIsNumD K)) (XBadAmount : Xi P w K mg base 1 "BadAmount" cA (spInit1 cA "value")) : FnOk P w K mg base (L2N.CX P w) 3 f fd ["top", "bottom"] (spAmountX cA K) := by
  refine ok_methX F c_amount (fun vs H Q E h => ?_) (fun cdv A outer s H vs Q E hr h => ?_)
  · obtain ⟨v1, v2, d1, d2, rfl, _⟩ := h
    rfl
  · obtain ⟨v1, v2, d1, d2, rfl, h1, h2, k1, k2, k⟩ := h
    have nd := c_amount.nd
    refine ⟨_, (pss_cons (ps_if (PW.pt (pw_or (pt_not (pt_val (pe_fn Fis_number (hr.mono (by decide)) (pa_cons (pv 0) pa_nil)))) (pw_or1 (pt_cmpR op_lt (pv 0) pe_int (nomark _)))))
        (pss_one (ps_raise1 XBadAmount (hr.mono (by decide)) rfl (L2N.takes_of rfl rfl rfl rfl) (pa_cons (pv 0) pa_nil)))
        pss_nil)
      (pss_cons (ps_if (PW.pt (pw_or (pt_not (pt_val (pe_fn Fis_number (hr.mono (by decide)) (pa_cons (pv 1) pa_nil)))) (pw_or1 (pt_cmpR op_lt (pv 1) pe_int (nomark _)))))
        (pss_one (ps_raise1 XBadAmount (hr.mono (by decide)) rfl (L2N.takes_of rfl rfl rfl rfl) (pa_cons (pv 1) pa_nil)))
        pss_nil)
      (pss_cons (ps_set (i := 2) nd rfl (by first | exact Or.inl rfl | exact Or.inr rfl) (pe_callBfun cr_gcd (by rfl) T.gcd (pa_cons (pv 0) (pa_cons (pv 1) pa_nil))))
      (pss_one (ps_ret (pe_tup (pa_cons (pe_op op_fdivW (pv 0) (pv 2)) (pa_cons (pe_op op_fdivW (pv 1) (pv 2)) pa_nil)))))))), ?_⟩
    show (_ : TS) _ [some _, some _, none] _
    try dsimp only [cxOf, Cx.nox]
    walk_at "go"
    refine ⟨v1, d1, rfl, h1, ?_⟩
    walk_at "go"
    cases hn1 : numD d1 with
    | false =>
      walk_at "run"
      exact ⟨v1, rfl, k1 (nnD_n hn1)⟩
    | true =>
      obtain ⟨i, rfl⟩ := numD_int hn1
      cases h1
      walk_at "run"
      refine r_dec (fun hi => ?_) (fun hi => ?_)
      · walk_at "run"
        exact ⟨_, rfl, k1 (decide_eq_false (by omega))⟩
      · have e1 : nnD (.int i) = true := decide_eq_true (by omega)
        walk_at "run"
        refine ⟨v2, d2, rfl, h2, ?_⟩
        walk_at "go"
        cases hn2 : numD d2 with
        | false =>
          walk_at "run"
          exact ⟨v2, rfl, k2 e1 (posD_n hn2)⟩
        | true =>
          obtain ⟨j, rfl⟩ := numD_int hn2
          cases h2
          walk_at "run"
          refine r_dec (fun hj => ?_) (fun hj => ?_)
          · walk_at "run"
            exact ⟨_, rfl, k2 e1 (decide_eq_false (by omega))⟩
          · obtain ⟨a, rfl⟩ : ∃ a : Nat, i = (a : Int) := ⟨i.toNat, by omega⟩
            obtain ⟨b, rfl⟩ : ∃ b : Nat, j = (b : Int) := ⟨j.toNat, by omega⟩
            have hb : 0 < b := by omega
            obtain ⟨lb, k⟩ := k a b rfl rfl hb
            have g0 : 0 < Nat.gcd a b := Nat.gcd_pos_of_pos_right _ hb
            have gl : Nat.gcd a b < 2 ^ 4000 := Nat.lt_of_le_of_lt (Nat.gcd_le_right _ hb) lb
            have d1 : ∀ i : Int, CDivW i ((Nat.gcd a b : Nat) : Int) := fun i => cdiv g0 gl (by decide) (by decide)
            walk_at "run"
            refine r_I (d1 _) ?_
            walk_at "go"
            refine r_I (d1 _) ?_
            walk_at "go"
            refine k _ _ (Ext.refl.new (by assumption)) ⟨_, rfl, ?_⟩
            obtain ⟨x1, x2⟩ := mk_parts a b hb
            rw [x1, x2]
            simp only [Int.natCast_ediv]
            exact tupS
def spMinusX (cS : Addr) (K : PySem.W.Frag) : Sp := fun vs H Q E => ∃ v1 v2 p q, vs = [v1, v2] ∧ Am K H v1 p ∧ Am K H v2 q ∧ Sz 4000 p ∧ Sz 4000 q ∧ (p < q → ∀ d, H d = none → E (.ref cS) (some d) (upd H d (.xd [("amount", v1)]))) ∧ (q ≤ p → RetAm K H Q (p - q))
theorem x_minus (F : FunD K "minus" "minus" (defArgs s_minus) (defBody s_minus) (defScope s_minus) [] [] f fd) (hm : mg "minus" = some (.ref f)) {cS : Addr} (Fcompare : Fn P w K mg base 1 "compare" (spCompare K)) (F_added : Fn P w K mg base 1 "_added" (spAdded K)) (XShort : Xi P w K mg base 1 "Short" cS (spInit1 cS "amount")) : FnOk P w K mg base (L2N.CX P w) 3 f fd ["first", "second"] (spMinusX cS K) := by
  refine ok_methX F c_minus (fun vs H Q E h => ?_) (fun cdv A outer s H vs Q E hr h => ?_)
  · obtain ⟨v1, v2, p, q, rfl, _⟩ := h
    rfl
  · obtain ⟨v1, v2, p, q, rfl, ⟨a1, rfl, h1⟩, ⟨a2, rfl, h2⟩, z1, z2, ks, k⟩ := h
    have nd := c_minus.nd
    refine ⟨_, (pss_cons (ps_if (pt_cmpR op_lt (pe_fn Fcompare (hr.mono (by decide)) (pa_cons (pv 0) (pa_cons (pv 1) pa_nil))) pe_int (nomark _))
        (pss_one (ps_raise1 XShort (hr.mono (by decide)) rfl (L2N.takes_of rfl rfl rfl rfl) (pa_cons (pv 0) pa_nil)))
        pss_nil)
      (pss_one (ps_ret (pe_fn F_added (hr.mono (by decide)) (pa_cons (pv 0) (pa_cons (pe_tup (pa_cons (pe_un un_neg (pe_ix ix_tup (pv 1) pe_int (fun _ _ => rfl))) (pa_cons (pe_ix ix_tup (pv 1) pe_int (fun _ _ => rfl)) pa_nil))) pa_nil)))))), ?_⟩
    show (_ : TS) _ [some _, some _] _
    try dsimp only [cxOf, Cx.nox]
    walk_at "go"
    refine ⟨_, _, p, q, rfl, ⟨_, rfl, h1⟩, ⟨_, rfl, h2⟩, z1, z2, ?_⟩
    walk_at "go"
    refine r_dec (fun hlt => ?_) (fun hge => ?_)
    · walk_at "go"
      exact ⟨_, rfl, ks ((cmp_lt _ _).mp hlt)⟩
    · have k := k (Rat.not_lt.mp fun z => hge ((cmp_lt _ _).mpr z))
      walk_at "go"
      refine ⟨_, _, p, -q, rfl, ⟨_, rfl, tupN h1 (by assumption)⟩, ⟨_, rfl, ?_⟩, z1, sz_neg z2, fun v H' e a => ?_⟩
      · rw [Rat.neg_num]
        exact tupS
      · refine k v H' ((Ext.refl.new (by assumption)).trans e) ?_
        rw [Rat.sub_eq_add_neg]
        exact a
def spOverX (cA : Addr) (K : PySem.W.Frag) : Sp := fun vs H Q E => ∃ v1 v2 p q, vs = [v1, v2] ∧ Am K H v1 p ∧ Am K H v2 q ∧ 0 ≤ q ∧ Sz 4000 p ∧ Sz 4000 q ∧ (q = 0 → ∀ d, H d = none → E (.ref cA) (some d) (upd H d (.xd [("value", v2)]))) ∧ (0 < q → RetAm K H Q (p / q))
theorem x_over (F : FunD K "over" "over" (defArgs s_over) (defBody s_over) (defScope s_over) [] [] f fd) (hm : mg "over" = some (.ref f)) {cA : Addr} (TZ : ∃ z, mg "ZERO" = some (.ref z) ∧ ∀ H, SqT K H z [.int 0, .int 1]) (F_product : Fn P w K mg base 1 "_product" (spProd K)) (XBadAmount : Xi P w K mg base 1 "BadAmount" cA (spInit1 cA "value")) : FnOk P w K mg base (L2N.CX P w) 3 f fd ["first", "second"] (spOverX cA K) := by
  refine ok_methX F c_over (fun vs H Q E h => ?_) (fun cdv A outer s H vs Q E hr h => ?_)
  · obtain ⟨v1, v2, p, q, rfl, _⟩ := h
    rfl
  · obtain ⟨v1, v2, p, q, rfl, ⟨a1, rfl, h1⟩, ⟨a2, rfl, h2⟩, hq0, z1, z2, ks, k⟩ := h
    have nd := c_over.nd
    obtain ⟨z, mz, TZ⟩ := TZ
    refine ⟨_, (pss_cons (ps_if (pt_cmpR (op_eqD hr.units) (pv 1) (pe_glob (v := .ref z) rfl mz rfl) (nomark _))
        (pss_one (ps_raise1 XBadAmount (hr.mono (by decide)) rfl (L2N.takes_of rfl rfl rfl rfl) (pa_cons (pv 1) pa_nil)))
        pss_nil)
      (pss_one (ps_ret (pe_fn F_product (hr.mono (by decide)) (pa_cons (pe_ix ix_tup (pv 0) pe_int (fun _ _ => rfl)) (pa_cons (pe_ix ix_tup (pv 0) pe_int (fun _ _ => rfl)) (pa_cons (pe_ix ix_tup (pv 1) pe_int (fun _ _ => rfl)) (pa_cons (pe_ix ix_tup (pv 1) pe_int (fun _ _ => rfl)) pa_nil)))))))), ?_⟩
    show (_ : TS) _ [some _, some _] _
    try dsimp only [cxOf, Cx.nox]
    walk_at "go"
    refine ⟨_, _, .tup (h2) (.cons (.int _) (.cons (.int _) .nil)), .tup (TZ _) (.cons (.int _) (.cons (.int _) .nil)), rfl, rfl, ?_⟩
    walk_at "go"
    by_cases hz : q = 0
    · subst hz
      have en : PyData.eqv (PyData.tuple [PyData.int (0 : Rat).num, PyData.int ↑(0 : Rat).den]) (PyData.tuple [PyData.int 0, PyData.int 1]) = true := by decide +kernel
      rw [en]
      refine r_true rfl ?_
      walk_at "go"
      exact ⟨_, rfl, ks rfl⟩
    · have hq : 0 < q := Rat.lt_of_le_of_ne hq0 (Ne.symm hz)
      have k := k hq
      obtain ⟨i1, i2⟩ := inv_parts hq
      have hn : ¬ q.num = 0 := by have := num_pos' hq; omega
      have en : PyData.eqv (PyData.tuple [PyData.int q.num, PyData.int ↑q.den]) (PyData.tuple [PyData.int 0, PyData.int 1]) = false := by
        simp [PyData.eqv, PyData.eqvAll, hn]
      rw [en]
      refine iteF ?_
      walk_at "go"
      refine ⟨p, q⁻¹, ?_, z1, sz_inv z2 hq, fun v H' e a => k v H' e ?_⟩
      · rw [i1, i2]
      · rw [Rat.div_def]
        exact a
end
end Yk

set_option maxHeartbeats 4000000
namespace Yk
open PySem PySem.Spec PyProof.Rows L2 LamX

/-! What a lambda told. -/
local macro_rules | `(tactic| walk_at "st") => `(tactic| first
  | with_reducible refine' r_tXf ?_)
theorem pss_ex {X : Cx} {st : List Stmt} {Pe : XK → Prop} {t : XK → TS} (h : ∀ e, Pe e → PSs X st (t e)) : PSs X st (fun D σ H => ∃ e, Pe e ∧ t e D σ H) :=
  ⟨fun pins s σ H D I ⟨e, h1, h2⟩ => (h e h1).run pins s σ H D I h2⟩
abbrev s_law_told : Stmt := top 49
theorem c_law_told : FnScope ["_law_deed", "error"] ["_law_deed"] (defScope s_law_told) := ⟨rfl, rfl, rfl, by decide +kernel, rfl, by decide +kernel, by decide +kernel⟩
theorem told_lam {P : Program} {w : World} {K : PySem.W.Frag} {mg : Str → Option Value} {base : Heap} {f : Addr} {fd : FuncData} (F : FunD K "_law_told" "_law_told" (defArgs s_law_told) (defBody s_law_told) (defScope s_law_told) [] [] f fd) (hm : mg "_law_told" = some (.ref f))
    {cA cS cB : Addr} (T : Bt mg) (mBandError : mg "BandError" = some (.ref cB)) (YBadAmount : Xc K mg "BadAmount" cA) (NBadAmount_value : PySem.W.findIn K (.ref cA) "value" = some none) (YShort : Xc K mg "Short" cS) (NShort_amount : PySem.W.findIn K (.ref cS) "amount" = some none)
    (eBadAmount_BandError : PySem.W.exmOne K (.ref cA) (.ref cB) = some true) (eShort_BandError : PySem.W.exmOne K (.ref cS) (.ref cB) = some true) (kBadAmount_BadAmount : PySem.W.kitOne K (.ref cA) (.ref cA) = some true) (kShort_BadAmount : PySem.W.kitOne K (.ref cS) (.ref cA) = some false) (kShort_Short : PySem.W.kitOne K (.ref cS) (.ref cS) = some true) :
    LamF P w K mg base "_law_told" "_law_deed" (TTold cA cS) := by
  have hb : Binds K fd ["_law_deed"] [] := F.bindsN (fun _ _ _ _ _ _ us hl => match us, hl with | [_], _ => rfl)
  have nd := c_law_told.nd
  obtain ⟨oc, od, dV, kV, doc, pm, an, cdv, ct, osl, rfl, lk, hcd, hD, _⟩ := F.ex
  refine ⟨f, _, _, _, dV, kV, doc, pm, cdv, ct, oc, an, od, osl, _, hm, F.kp, lk, hcd, hb, c_law_told, rfl, .inl rfl, rfl, rfl, fun X q e1 e2 e3 e4 e5 => ?_⟩
  subst e1 e2 e3 e4 e5
  intro fl c' s H Q tl act hc h
  have mA := YBadAmount.hm
  have mS := YShort.hm
  refine ⟨_, pss_one (ps_try_as (X := (cxOf C8.CX0 X.prog X.w X.K X.mg X.base _ "_law_told" _ f cdv X.A X.stack s H C8.E0).nox) (i := 1)
      (tb := fun W D σ H => ∃ Ech : XK, (∀ cls d σ' H', σ'.length = 2 → Ech cls d H' → W cls d σ' H') ∧ σ[0]? = some (some (.ref fl)) ∧ H c' = some (CodeO c' q) ∧ tl Ech H fun v H1 => [V.str "told", v].length ≤ sizeLine ∧ ∀ p, H1 p = none → D.rt (.ref p) (upd H1 p (.lst [.str "told", v])))
      rfl rfl nd rfl rfl ⟨rfl, by decide, .inl mBandError⟩ takes0 (fun W pn xe tk _ => ?_)
      (fun a oe cls d pn hz hf => pss_cons (ps_if (pt_val (pe_callB (call_isX2 YBadAmount YShort hz hf) (by rfl) T.isinstance (by decide +kernel) (pa_cons (pv 1) (pa_cons (pe_glob (v := .ref cA) (by rfl) mA rfl) pa_nil)))) (pss_one (ps_ret (pe_lst (pa_cons pe_str (pa_cons (pe_xf YBadAmount.xf NBadAmount_value hz hf (pv 1)) pa_nil))))) pss_nil)
        (pss_cons (ps_if (pt_val (pe_callB (call_isX2 YBadAmount YShort hz hf) (by rfl) T.isinstance (by decide +kernel) (pa_cons (pv 1) (pa_cons (pe_glob (v := .ref cS) (by rfl) mS rfl) pa_nil)))) (pss_one (ps_ret (pe_lst (pa_cons pe_str (pa_cons (pe_xf YShort.xf NShort_amount hz hf (pv 1)) pa_nil))))) pss_nil)
          (pss_one (ps_ret (pe_lst (pa_cons pe_str pa_nil))))))), ?_⟩
  · refine pss_ex (t := fun Ech D σ H => σ[0]? = some (some (V.ref fl)) ∧ H c' = some (CodeO c' q) ∧ tl Ech H fun v H1 => [V.str "told", v].length ≤ sizeLine ∧ ∀ p, H1 p = none → D.rt (.ref p) (upd H1 p (.lst [.str "told", v]))) fun Ech hW => ?_
    have tk2 : L2.Takes ((cxOf C8.CX0 X.prog X.w X.K X.mg X.base _ "_law_told" _ f cdv X.A X.stack s H C8.E0).tr pn xe) (fun cls d σ' H' => σ'.length = 2 → W cls d σ' H') := fun u s2 xx => by
      obtain ⟨a, B, sI, pins, σ2, H2, cls, d, e, I2, r1, r2, r3, r4, r5, r6, w2⟩ := xx
      exact tk u s2 ⟨a, B, sI, pins, σ2, H2, cls, d, e, I2, r1, r2, r3, r4, r5, r6, w2 I2.len⟩
    exact pss_one (ps_ret (pe_lst (pa_cons pe_str (pa_cons (act _ pn xe Ech _ _ tk2 (fun cls d σ' H' e hl => hW cls d σ' H' hl e)) pa_nil))))
  · refine ⟨_, fun cls d σ' H' hl e => ?_, rfl, hc, h⟩
    obtain ⟨dd, v, rfl, h2⟩ := e
    match σ', hl with
    | [x0, x1], _ =>
      rcases h2 with ⟨rfl, hd, k⟩ | ⟨rfl, hd, k⟩
      · refine r_caught eBadAmount_BandError fun a ha => ?_
        show (_ : TS) _ [x0, some (V.ref a)] _
        try dsimp only [cxOf, Cx.nox]
        walk_at "go"
        refine ⟨_, _, true, cA, dd, _, rfl, fun u hu => hu, .inl rfl, kBadAmount_BadAmount, rfl, rfl, hd, ?_⟩
        walk_at "run"
        refine r_xf rfl rfl hd rfl ?_
        walk_at "run"
        exact k _ (by assumption)
      · refine r_caught eShort_BandError fun a ha => ?_
        show (_ : TS) _ [x0, some (V.ref a)] _
        try dsimp only [cxOf, Cx.nox]
        walk_at "go"
        refine ⟨_, _, false, cS, dd, _, rfl, fun u hu => hu, .inr rfl, kShort_BadAmount, rfl, rfl, hd, ?_⟩
        walk_at "run"
        refine ⟨_, _, true, cS, dd, _, rfl, fun u hu => hu, .inr rfl, kShort_Short, rfl, rfl, hd, ?_⟩
        walk_at "run"
        refine r_xf rfl rfl hd rfl ?_
        walk_at "run"
        exact k _ (by assumption)
end Yk

set_option maxHeartbeats 4000000
namespace Yk
open PySem PySem.Spec PyProof.Rows L2

/-! Small amounts, of any data. -/
def smD (d : PyData) : Bool := amD d && (match d with | .tuple [.int t, .int b] => decide (b ≤ 12) && decide (t ≤ 1000 * b) | _ => false)
theorem smD_n {d : PyData} (h : amD d = false) : smD d = false := by unfold smD; rw [h]; rfl
theorem smD_y {p : Rat} (h : amD (.tuple [.int p.num, .int (p.den : Int)]) = true) : smD (.tuple [.int p.num, .int (p.den : Int)]) = (decide ((p.den : Int) ≤ 12) && decide (p.num ≤ 1000 * (p.den : Int))) := by unfold smD; rw [h]; rfl
theorem le_1000 {p : Rat} : decide (cmpQ p 1000 ≤ 0) = decide (p.num ≤ 1000 * (p.den : Int)) := by
  rw [Bool.eq_iff_iff, decide_eq_true_iff, decide_eq_true_iff]
  refine cmpQ_le.trans ?_
  rw [Rat.le_iff, show (1000 : Rat).num = 1000 from rfl, show (1000 : Rat).den = 1 from rfl]
  simp
section
variable {P : Program} {w : World} {K : PySem.W.Frag} {mg : Str → Option Value} {base : Heap} {f : Addr} {fd : FuncData}
def spSmallD (K : PySem.W.Frag) : Sp := fun vs H Q _ => ∃ (v : V) (d : PyData), vs = [v] ∧ Dp K H v d ∧ smAmB d = true ∧ Q (.bl (smD d)) H
abbrev s_is_small : Stmt := top 17
theorem c_is_small : FnScope ["value"] ["value"] (defScope s_is_small) := ⟨rfl, rfl, rfl, by decide +kernel, rfl, by decide +kernel, by decide +kernel⟩
theorem f_is_small (F : FunD K "is_small" "is_small" (defArgs s_is_small) (defBody s_is_small) (defScope s_is_small) [] [] f fd) (hm : mg "is_small" = some (.ref f)) (T : Bt mg) (TB12 : ∃ t, mg "SMALL_BOTTOM" = some (.int 12 t)) (TT : ∃ z, mg "TOP" = some (.ref z) ∧ ∀ H, SqT K H z [.int 1000, .int 1]) (Fis_amount : Fn P w K mg base 2 "is_amount" (spIsAmD K)) (Fcompare : Fn P w K mg base 1 "compare" (spCompare K)) : FnOk P w K mg base CX0 3 f fd ["value"] (spSmallD K) := by
  refine ok_def F c_is_small (fun vs H Q E h => ?_) (fun cdv A outer s H vs Q E hr h => ?_)
  · obtain ⟨v, d, rfl, _⟩ := h
    rfl
  · obtain ⟨v, d, rfl, hd, hs, k⟩ := h
    have nd := c_is_small.nd
    obtain ⟨tz, mtz, TT⟩ := TT; obtain ⟨tb, msb⟩ := TB12
    refine ⟨_, (pss_one (ps_ret (pe_and (pe_fn Fis_amount (hr.mono (by decide)) (pa_cons (pv 0) pa_nil)) (pe_and (pe_cmpR op_le (pe_ix ix_tup (pv 0) pe_int (fun _ _ => rfl)) (pe_glob (v := .int 12) rfl msb ⟨_, rfl⟩) (nomark _)) (pe_one (pe_cmpR op_le (pe_fn Fcompare (hr.mono (by decide)) (pa_cons (pv 0) (pa_cons (pe_glob (v := .ref tz) rfl mtz rfl) pa_nil))) pe_int (nomark _))))))), ?_⟩
    show (_ : TS) _ [some _] _
    try dsimp only [cxOf, Cx.nox]
    walk_at "go"
    refine ⟨v, d, rfl, hd, ?_⟩
    walk_at "go"
    cases ha : amD d with
    | false =>
      rw [smD_n ha] at k
      walk_at "run"
      exact k
    | true =>
      obtain ⟨p, p0, rfl⟩ := amD_rat ha
      rw [smD_y ha] at k
      obtain ⟨a, rfl, hp⟩ := dp_rat hd
      walk_at "run"
      refine r_dec (fun h12 => ?_) (fun h12 => ?_)
      · rw [decide_eq_true h12] at k
        walk_at "run"
        refine k_cmp ⟨_, rfl, hp⟩ (q := 1000) ⟨_, rfl, TT _⟩ ((smAm_sz hs).mono (by decide)) ⟨by decide +kernel, by decide +kernel⟩ ?_
        walk_at "run"
        rw [le_1000]
        exact k
      · rw [decide_eq_false h12] at k
        walk_at "run"
        exact k
def spLSmallD (K : PySem.W.Frag) : Sp := fun vs H Q _ => ∃ (v : V) (d : PyData), vs = [v] ∧ Dp K H v d ∧ smAmB d = true ∧ ∀ H', Ext [] H H' → Q (.bl (smD d)) H'
abbrev s_law_is_small : Stmt := top 45
theorem c_law_is_small : FnScope ["_law_x"] ["_law_x"] (defScope s_law_is_small) := ⟨rfl, rfl, rfl, by decide +kernel, rfl, by decide +kernel, by decide +kernel⟩
theorem f_law_is_small (F : FunD K "_law_is_small" "_law_is_small" (defArgs s_law_is_small) (defBody s_law_is_small) (defScope s_law_is_small) [] [] f fd) (hm : mg "_law_is_small" = some (.ref f)) (T : Bt mg) (F_law_is_amount : Fn P w K mg base 2 "_law_is_amount" (spLIsAm K)) : Fn P w K mg base 3 "_law_is_small" (spLSmallD K) := by
  refine fn_def F hm c_law_is_small (fun vs H Q E h => ?_) (fun _ _ _ _ _ _ us hl => match us, hl with | [_], _ => rfl) (fun cdv A outer s H vs Q E hr h => ?_)
  · obtain ⟨v, d, rfl, _⟩ := h
    rfl
  · obtain ⟨v, d, rfl, hd, hs, k⟩ := h
    have nd := c_law_is_small.nd
    refine ⟨_, (pss_one (ps_ret (pe_and (pe_fn F_law_is_amount (hr.mono (by decide)) (pa_cons (pv 0) pa_nil)) (pe_and (pe_cmpR op_le (pe_ix ix_tup (pv 0) pe_int (fun _ _ => rfl)) (pe_op op_mul pe_int (pe_ix ix_tup (pv 0) pe_int (fun _ _ => rfl))) (nomark _)) (pe_one (pe_cmpR op_le (pe_ix ix_tup (pv 0) pe_int (fun _ _ => rfl)) pe_int (nomark _))))))), ?_⟩
    show (_ : TS) _ [some _] _
    try dsimp only [cxOf, Cx.nox]
    walk_at "go"
    refine ⟨v, d, rfl, hd, hs, fun H1 e1 => ?_⟩
    walk_at "go"
    have k := k H1 e1
    cases ha : amD d with
    | false =>
      rw [smD_n ha] at k
      walk_at "run"
      exact k
    | true =>
      obtain ⟨p, p0, rfl⟩ := amD_rat ha
      rw [smD_y ha, Bool.and_comm] at k
      obtain ⟨a, rfl, hp⟩ := (dp_rat hd).x0 e1
      walk_at "run"
      refine r_I (.inl ⟨by decide, by decide⟩) ?_
      walk_at "run"
      refine r_dec (fun h12 => ?_) (fun h12 => ?_)
      · rw [decide_eq_true h12] at k
        walk_at "run"
        exact k
      · rw [decide_eq_false h12] at k
        walk_at "run"
        exact k
end
end Yk

set_option maxHeartbeats 1000000
/-! Any text as an amount: digits, parts between slashes. -/
namespace Yk
open PySem PySem.Spec PyProof.Rows L2 TL
def dg (c : Nat) : Bool := decide (48 ≤ c) && decide (c ≤ 57)
/-- digits that the program reads -/
def goodB (l : List Nat) : Bool := !l.isEmpty && (l.all dg && (decide (l.length ≤ 400) && (decide (l = [48]) || !decide (l.head? = some 48))))
def numV (l : List Nat) : Nat := PySem.NumText.digitsVal l
theorem uni_dg : ∀ c, c < 128 → Unicode.isDigit c = dg c := by decide +kernel
theorem dg_lt {c : Nat} (h : dg c = true) : c < 128 := by unfold dg at h; simp at h; omega
theorem dig_all : ∀ l : List Nat, (l.all (fun c => decide (c < 128)) && l.all Unicode.isDigit) = l.all dg
  | [] => rfl
  | c :: r => by
    have ih := dig_all r
    simp only [List.all_cons]
    by_cases hc : c < 128
    · rw [uni_dg c hc, decide_eq_true hc, ← ih]
      cases dg c <;> simp
    · have : dg c = false := Bool.eq_false_iff.mpr fun z => hc (dg_lt z)
      rw [this, decide_eq_false hc]
      rfl
theorem ascii_tl (z : Str) : Txt.isascii z = (tl z).all (fun c => decide (c < 128)) := by
  unfold Txt.isascii
  rw [← Array.all_toList]
theorem digit_tl (z : Str) : Txt.isdigit z = (!(tl z).isEmpty && (tl z).all Unicode.isDigit) := by
  unfold Txt.isdigit
  rw [← Array.all_toList]
  congr 1
  show decide (z.cps.size > 0) = !(z.cps.toList).isEmpty
  rw [← Array.length_toList]
  cases z.cps.toList <;> simp
theorem len_tlz (z : Str) : z.length = (tl z).length := Array.length_toList.symm
theorem zeroS : Str.ofString "0" = ⟨#[48]⟩ := by decide +kernel
theorem starts_tl (z : Str) : Txt.startswith z (Str.ofString "0") = decide ((tl z).head? = some 48) := by
  rw [Bool.eq_iff_iff, decide_eq_true_iff, zeroS, List.head?_eq_getElem?]
  have h := PySem.StrLaws.subAt_one z 48 0
  show (decide (0 + (⟨#[48]⟩ : Str).length ≤ z.length) && Builtin.Str.subAt z ⟨#[48]⟩ 0) = true ↔ _
  rw [Bool.and_eq_true, decide_eq_true_iff]
  exact h
theorem eq_one {z : Str} {c : Nat} : (V.str z = V.str ⟨#[c]⟩) ↔ tl z = [c] := by
  constructor
  · intro h
    rw [V.str.inj h]
  · intro h
    exact congrArg V.str (str_eq h)
theorem eq_empty {z : Str} : (V.str z = V.str (Str.ofString "")) ↔ tl z = [] := by
  constructor
  · intro h
    rw [V.str.inj h]
    decide +kernel
  · intro h
    exact congrArg V.str (str_eq (h.trans (show [] = tl (Str.ofString "") by decide +kernel)))
theorem dg_all {l : List Nat} (h : l.all dg = true) : PySem.NumText.AllDigits l := fun c hc => by
  have := List.all_eq_true.mp h c hc
  unfold dg at this
  simpa using this
theorem read_tl {z : Str} (h : (tl z).all dg = true) (h0 : tl z ≠ []) (h1 : z.length ≤ 4300) : PySem.intText? z = some ((numV (tl z) : Nat) : Int) := PySem.intText_digits (dg_all h) h0 h1
theorem numV_lt : ∀ (n : Nat) (l : List Nat), l.length = n → l.all dg = true → numV l < 10 ^ n
  | 0, l, hl, _ => by rw [List.eq_nil_of_length_eq_zero hl]; decide
  | n + 1, l, hl, h => by
    have hne : l ≠ [] := fun z => by rw [z] at hl; cases hl
    have e := List.dropLast_concat_getLast hne
    have hd : (l.dropLast).length = n := by rw [List.length_dropLast, hl]; rfl
    rw [← e, List.all_append, Bool.and_eq_true] at h
    have ih := numV_lt n _ hd h.1
    have hc : dg (l.getLast hne) = true := by have := h.2; simpa using this
    rw [← e]
    show PySem.NumText.digitsVal (l.dropLast ++ [l.getLast hne]) < _
    rw [PySem.NumText.digitsVal_snoc]
    unfold dg at hc
    simp at hc
    have : PySem.NumText.digitsVal l.dropLast < 10 ^ n := ih
    rw [Nat.pow_succ]
    omega
theorem numV_big {l : List Nat} (h : goodB l = true) : numV l < 2 ^ 1340 := by
  unfold goodB at h
  simp only [Bool.and_eq_true, decide_eq_true_eq] at h
  refine Nat.lt_of_lt_of_le (numV_lt _ l rfl h.2.1) (Nat.le_trans (Nat.pow_le_pow_right (by decide) h.2.2.1) (by decide +kernel))
/-! parts between slashes -/
def splS : List Nat → List (List Nat)
  | [] => [[]]
  | c :: r => if c = 47 then [] :: splS r else match splS r with
    | [] => [[c]]
    | p :: q => (c :: p) :: q
theorem splS_ne : ∀ l, splS l ≠ []
  | [] => by simp [splS]
  | c :: r => by
    unfold splS
    split
    · simp
    · split <;> simp
theorem splS_no : ∀ l, ∀ p ∈ splS l, 47 ∉ p
  | [], p, hp => by
    rw [show splS [] = [[]] from rfl, List.mem_singleton] at hp
    rw [hp]
    simp
  | c :: r, p, hp => by
    have ih := splS_no r
    unfold splS at hp
    split at hp
    · rcases List.mem_cons.mp hp with rfl | hp
      · simp
      · exact ih p hp
    · rename_i hc
      split at hp
      · rw [List.mem_singleton.mp hp]
        simp
        omega
      · rename_i p0 q e
        rcases List.mem_cons.mp hp with rfl | hp
        · have := ih p0 (by rw [e]; exact List.mem_cons_self)
          simp
          exact ⟨by omega, this⟩
        · exact ih p (by rw [e]; exact List.mem_cons_of_mem _ hp)
theorem splS_join : ∀ l, joinL [47] (splS l) = l
  | [] => rfl
  | c :: r => by
    have ih := splS_join r
    unfold splS
    split
    · rename_i hc
      cases e : splS r with
      | nil => exact absurd e (splS_ne r)
      | cons p q =>
        rw [e] at ih
        show [] ++ ([47] ++ joinL [47] (p :: q)) = c :: r
        rw [ih, hc]
        rfl
    · cases e : splS r with
      | nil => exact absurd e (splS_ne r)
      | cons p q =>
        rw [e] at ih
        cases q with
        | nil =>
          have ih : p = r := ih
          show c :: p = c :: r
          rw [ih]
        | cons p2 q2 =>
          have ih : p ++ ([47] ++ joinL [47] (p2 :: q2)) = r := ih
          show (c :: p) ++ ([47] ++ joinL [47] (p2 :: q2)) = c :: r
          rw [List.cons_append, ih]
/-- the text of some signs -/
def mkS (l : List Nat) : Str := ⟨l.toArray⟩
theorem tl_mkS (l : List Nat) : tl (mkS l) = l := rfl
theorem mkS_tl (z : Str) : mkS (tl z) = z := str_eq rfl
theorem slashM : Str.ofString "/" = mkS [47] := slash
theorem tl_slash : tl (Str.ofString "/") = [47] := by rw [slash]
theorem split_tx (z : Str) : Txt.split z (Str.ofString "/") = (splS (tl z)).map mkS := by
  have h := split_join (y := Str.ofString "/") (s := 47) (S := []) tl_slash (by decide +kernel) (parts := (splS (tl z)).map mkS) (fun e => splS_ne _ (List.map_eq_nil_iff.mp e)) (fun p hp => by
    obtain ⟨q, hq, rfl⟩ := List.mem_map.mp hp
    exact splS_no _ q hq)
  have e : Txt.join (Str.ofString "/") ((splS (tl z)).map mkS) = z := by
    refine str_eq ?_
    rw [join_eq, tl_join, tl_slash, List.map_map]
    have : (tl ∘ mkS) = id := funext fun l => rfl
    rw [this, List.map_id, splS_join]
  rw [e] at h
  exact h
theorem part_tx1 {z : Str} {a : List Nat} (h : splS (tl z) = [a]) : Txt.partition z (Str.ofString "/") = (z, Str.empty, Str.empty) ∧ tl z = a := by
  have hj := splS_join (tl z)
  rw [h] at hj
  have hj : a = tl z := hj
  refine ⟨partition_none (y := Str.ofString "/") (s := 47) (S := []) tl_slash ?_, hj.symm⟩
  have := splS_no (tl z) a (by rw [h]; exact List.mem_singleton.mpr rfl)
  rw [← hj]
  exact this
theorem part_tx2 {z : Str} {a b : List Nat} {r : List (List Nat)} (h : splS (tl z) = a :: b :: r) : Txt.partition z (Str.ofString "/") = (mkS a, Str.ofString "/", mkS (joinL [47] (b :: r))) := by
  have hj := splS_join (tl z)
  rw [h] at hj
  have hj : a ++ ([47] ++ joinL [47] (b :: r)) = tl z := hj
  have e : z = mkS a ++ Str.ofString "/" ++ mkS (joinL [47] (b :: r)) := by
    refine str_eq ?_
    rw [tl_append, tl_append, tl_slash, tl_mkS, tl_mkS, ← hj, List.append_assoc]
  rw [e]
  exact partition_app (y := Str.ofString "/") (s := 47) (S := []) tl_slash (splS_no (tl z) a (by rw [h]; exact List.mem_cons_self))
theorem splS_len {z : Str} : ∀ p ∈ splS (tl z), p.length ≤ z.length := by
  have key : ∀ (ps : List (List Nat)), ∀ p ∈ ps, p.length ≤ (joinL [47] ps).length := by
    intro ps
    induction ps with
    | nil => intro p hp; cases hp
    | cons a r ih =>
      intro p hp
      cases r with
      | nil => rw [List.mem_singleton.mp hp]; exact Nat.le_refl _
      | cons b r =>
        show p.length ≤ (a ++ ([47] ++ joinL [47] (b :: r))).length
        rw [List.length_append, List.length_append]
        rcases List.mem_cons.mp hp with rfl | hp
        · omega
        · have := ih p hp
          omega
  intro p hp
  have := key _ p hp
  rw [splS_join, ← len_tlz] at this
  exact this
theorem joinL_slash {b c : List Nat} {r : List (List Nat)} : 47 ∈ joinL [47] (b :: c :: r) := by
  show 47 ∈ b ++ ([47] ++ joinL [47] (c :: r))
  simp
theorem goodB_slash {l : List Nat} (h : 47 ∈ l) : goodB l = false := by
  unfold goodB
  have : l.all dg = false := by
    rw [List.all_eq_false]
    exact ⟨47, h, by decide⟩
  rw [this]
  simp
def rdP : List (List Nat) → Option (Nat × Nat)
  | [a] => if goodB a = true then some (numV a, 1) else none
  | [a, b] => if goodB a = true ∧ goodB b = true ∧ 2 ≤ numV b ∧ Nat.gcd (numV a) (numV b) = 1 then some (numV a, numV b) else none
  | _ => none
/-- what a text tells -/
def rdD : PyData → Option (Nat × Nat)
  | .str z => rdP (splS (tl z))
  | _ => none
def RdIs (K : PySem.W.Frag) (H : Hp) (v : V) (o : Option (Nat × Nat)) : Prop := (o = none ∧ v = .non) ∨ ∃ (a : Addr) (n d : Nat), o = some (n, d) ∧ v = .ref a ∧ SqT K H a [.int ((n : Nat) : Int), .int ((d : Nat) : Int)]
/-! rules -/
def rInStr : V → V → Hp → VK → Prop := fun x y H Q => ∃ i j, x = .str i ∧ y = .str j ∧ Q (.bl (!(Builtin.Str.occurrences j i 0 j.length 1).isEmpty)) H
def rRepS : V → V → Hp → VK → Prop := fun x y H Q => ∃ (z : Str) (n : Nat), x = .str z ∧ y = .int (n : Int) ∧ 2 ≤ n ∧ n ≤ 1000 ∧ 1 ≤ z.length ∧ z.length ≤ 10 ∧ Q (.str (mkS (List.replicate n (tl z)).flatten)) H
section
variable {X : Cx}
theorem op_inS : OpR X (compareOp .In) rInStr := op_in_str
theorem rep_flat (x : Array Nat) : ∀ n : Nat, ((List.replicate n x).foldl (· ++ ·) #[]).toList = (List.replicate n x.toList).flatten := by
  have key : ∀ (n : Nat) (acc : Array Nat), ((List.replicate n x).foldl (· ++ ·) acc).toList = acc.toList ++ (List.replicate n x.toList).flatten := by
    intro n
    induction n with
    | zero => intro acc; simp
    | succ n ih =>
      intro acc
      rw [List.replicate_succ, List.foldl_cons, ih, List.replicate_succ, List.flatten_cons, Array.toList_append, List.append_assoc]
  intro n
  rw [key]
  simp
theorem op_repS : OpR X (binaryOp .Mult) rRepS := by
  intro pins s σ H x y v u Q I rx ry h
  obtain ⟨z, n, rfl, rfl, h2, h9, l1, l9, q⟩ := h
  obtain ⟨t, rfl⟩ := rx
  obtain ⟨t', rfl⟩ := ry
  have e : mkS (List.replicate n (tl z)).flatten = ⟨(List.replicate n z.cps).foldl (· ++ ·) #[]⟩ := str_eq (rep_flat z.cps n).symm
  have b1 : (decide ((n : Int) < -(2 ^ 63 : Int)) || decide ((n : Int) ≥ 2 ^ 63)) = false := by
    rw [decide_eq_false (by omega), decide_eq_false (by omega)]; rfl
  have hl : z.length * n ≤ 10000 := Nat.mul_le_mul l9 h9
  have ln := line63
  refine PySem.P.mul_str b1 (fun _ _ hh => ?_) (fun _ _ => ?_) ?_
  · have hd : ((10 : Int)) ≤ (2 ^ 63 - 1) / (n : Int) := by
      refine Int.le_ediv_of_mul_le (by omega) ?_
      omega
    omega
  · show decide (z.length * (n : Int).toNat > sizeLine) = false
    rw [Int.toNat_natCast]
    exact decide_eq_false (Nat.not_lt.mpr (Nat.le_trans hl (by decide)))
  · rw [if_neg (by omega), if_neg (by simp; omega), Int.toNat_natCast, ← e]
    refine ⟨?_, ?_⟩
    · refine Nat.le_trans ?_ (show 10000 ≤ sizeLine by decide)
      rw [len_tlz, tl_mkS, List.length_flatten, List.map_replicate, List.sum_replicate_nat, ← len_tlz, Nat.mul_comm]
      exact hl
    · exact ⟨.str _, H, I.tok _, ⟨_, rfl⟩, q⟩
end
section
variable {K : PySem.W.Frag} {σ : L2.St} {H : Hp} {Q : VK}
/-- a comprehension over a text's signs -/
theorem r_lcS {z : Str} {g : TG} {tt : TT} {te : TE} {vs : List Nat} {D : Addr} {Qd : Hp → Prop} (Pv : Nat → Hp → Prop) (h0 : Pv 0 (upd H D (.lst [])))
    (hs : ∀ i c H, (tl z)[i]? = some c → Pv i H → g (.str ⟨#[c]⟩) (wipe σ vs) H fun σ2 H2 => wipe σ2 vs = wipe σ vs ∧ tt σ2 H2 fun b H3 =>
      if b = true then te σ2 H3 fun y H4 => ∃ acc, H4 D = some (.lst acc) ∧ acc.length < sizeLine ∧ Pv (i + 1) (upd H4 D (.lst (acc ++ [y]))) else Pv (i + 1) H3) (hd : ∀ H, Pv (tl z).length H → Qd H) :
    ∃ W : Nat → Nat → Hp → Prop, (∃ m, W 0 m (upd H D (.lst []))) ∧ ∀ i m H, W i m H →
      ((Its z).stop i H ∧ Qd H) ∨ ((Its z).go i H ∧ ∃ Nx : Hp → Prop, (∀ H', Nx H' → ∃ m', m' < m ∧ W (i + 1) m' H') ∧ ∀ x H', (Its z).yld i H x H' → g x (wipe σ vs) H' fun σ2 H2 => wipe σ2 vs = wipe σ vs ∧ tt σ2 H2 fun b H3 =>
        if b = true then te σ2 H3 fun y H4 => ∃ acc, H4 D = some (.lst acc) ∧ acc.length < sizeLine ∧ Nx (upd H4 D (.lst (acc ++ [y]))) else Nx H3) := by
  have hz : z.cps.size = (tl z).length := Array.length_toList.symm
  refine ⟨fun i m H => m = (tl z).length - i ∧ i ≤ (tl z).length ∧ Pv i H, ⟨(tl z).length, by simp, Nat.zero_le _, h0⟩, ?_⟩
  rintro i m H ⟨rfl, hi, p⟩
  by_cases hlt : i < (tl z).length
  · refine .inr ⟨by show i < z.cps.size; omega, Pv (i + 1), fun H' p' => ⟨(tl z).length - (i + 1), by omega, rfl, hlt, p'⟩, fun x H' y => ?_⟩
    obtain ⟨e, c, hc, rfl⟩ := y
    subst e
    exact hs i c _ (by rw [← hc]; exact (Array.getElem?_toList)) p
  · have e : i = (tl z).length := by omega
    subst e
    exact .inl ⟨by show z.cps.size ≤ _; omega, hd H p⟩
theorem r_split {x : V} {y : V} (h : ∃ a b, x = .str a ∧ [y] = [.str b] ∧ (b.length == 0) = false ∧ a.length + 2 ≤ sizeLine ∧ rNewStrs (Txt.split a b) H Q) : (fun (x : V) (xs : List V) (H : Hp) (Q : VK) => ∃ a b, x = .str a ∧ xs = [.str b] ∧ (b.length == 0) = false ∧ a.length + 2 ≤ sizeLine ∧ rNewStrs (Txt.split a b) H Q) x [y] H Q := h
end
theorem found_dg (c : Nat) : (!(Builtin.Str.occurrences (Str.ofString "0123456789") ⟨#[c]⟩ 0 (Str.ofString "0123456789").length 1).isEmpty) = dg c := by
  rw [PySem.StrLaws.found_one, show (Str.ofString "0123456789").cps.toList = [48, 49, 50, 51, 52, 53, 54, 55, 56, 57] by decide +kernel]
  rw [Bool.eq_iff_iff, decide_eq_true_iff]
  unfold dg
  simp only [List.mem_cons, List.not_mem_nil, or_false, Bool.and_eq_true, decide_eq_true_eq]
  omega
end Yk

set_option maxHeartbeats 4000000
namespace Yk
open PySem PySem.Spec PyProof.Rows L2 TL

/-! Amounts read from any text. -/
section
variable {σ : L2.St} {H : Hp} {Q : VK} {te : TE}
theorem r_M1' {r : V → List V → Hp → VK → Prop} {to : TE} (h : to σ H fun x H1 => (∃ a, x = .str a) ∧ te σ H1 fun y H2 => r x [y] H2 Q) : tM1 r to te σ H Q := h
end
section
variable {P : Program} {w : World} {K : PySem.W.Frag} {mg : Str → Option Value} {base : Heap} {f : Addr} {fd : FuncData}
def spReadN (K : PySem.W.Frag) : Sp := fun vs H Q _ => ∃ (z : Str), vs = [.str z, .int 400] ∧ z.length ≤ 2010 ∧ Q (if goodB (tl z) = true then .int (numV (tl z) : Nat) else .non) H
abbrev s_read_number : Stmt := top 4
theorem c_read_number : FnScope ["text", "most"] ["text", "most"] (defScope s_read_number) := ⟨rfl, rfl, rfl, by decide +kernel, rfl, by decide +kernel, by decide +kernel⟩
theorem f_read_number (F : FunD K "read_number" "read_number" (defArgs s_read_number) (defBody s_read_number) (defScope s_read_number) [] [] f fd) (hm : mg "read_number" = some (.ref f)) (T : Bt mg) : Fn P w K mg base 1 "read_number" (spReadN K) := by
  refine fn_def F hm c_read_number (fun vs H Q E h => ?_) (fun _ _ _ _ _ _ us hl => match us, hl with | [_, _], _ => rfl) (fun cdv A outer s H vs Q E hr h => ?_)
  · obtain ⟨z, rfl, _⟩ := h
    rfl
  · obtain ⟨z, rfl, h6, k⟩ := h
    have nd := c_read_number.nd
    refine ⟨_, (pss_cons (ps_if (PW.pt (pw_or (pt_cmpR op_gt (pe_callB call_len_str (by rfl) T.len (by decide +kernel) (pa_cons (pv 0) pa_nil)) (pv 1) (nomark _)) (pw_or (pt_not (pt_val (pe_bm0 PySem.F.plainAttrs_str PySem.F.slot_str_isascii PySem.F.type_str_isascii mt_isascii (pv 0)))) (pw_or1 (pt_not (pt_val (pe_bm0 PySem.F.plainAttrs_str PySem.F.slot_str_isdigit PySem.F.type_str_isdigit mt_isdigit (pv 0))))))))
        (pss_one (ps_ret pe_non))
        pss_nil)
      (pss_cons (ps_if (PW.pt (pw_and (pt_val (pe_bm PySem.F.plainAttrs_str PySem.F.slot_str_startswith PySem.F.type_str_startswith mt_startswith (pv 0) (pa_cons pe_str pa_nil))) (pw_and1 (pt_cmpR op_ne (pv 0) pe_str (nomark _)))))
        (pss_one (ps_ret pe_non))
        pss_nil)
      (pss_one (ps_ret (pe_callTy call_int_str (by rfl) T.int (by decide +kernel) (pa_cons (pv 0) pa_nil)))))), ?_⟩
    show (_ : TS) _ [some _, some _] _
    try dsimp only [cxOf, Cx.nox]
    have hd := digit_tl z
    have ha := ascii_tl z
    have hda := dig_all (tl z)
    unfold goodB at k
    rw [← len_tlz] at k
    walk_at "go"
    refine ⟨_, rfl, Nat.le_trans h6 (by decide), ?_⟩
    walk_at "go"
    refine r_dec (fun h4 => ?_) (fun h4 => ?_)
    · rw [decide_eq_false (show ¬ z.length ≤ 400 by omega)] at k
      simp only [Bool.false_and, Bool.and_false] at k
      walk_at "run"
      exact k
    · rw [decide_eq_true (show z.length ≤ 400 by omega)] at k
      walk_at "run"
      refine ⟨rfl, _, rfl, rfl, trivial, ?_⟩
      rw [ha]
      cases e1 : (tl z).all (fun c => decide (c < 128)) with
      | false =>
        rw [e1, Bool.false_and] at hda
        rw [← hda] at k
        simp only [Bool.false_and, Bool.and_false] at k
        walk_at "run"
        exact k
      | true =>
        rw [e1, Bool.true_and] at hda
        walk_at "run"
        refine ⟨rfl, _, rfl, rfl, trivial, ?_⟩
        rw [hd, hda]
        cases e2 : (!(tl z).isEmpty && (tl z).all dg) with
        | false =>
          rw [← Bool.and_assoc, e2, Bool.false_and] at k
          walk_at "run"
          exact k
        | true =>
          rw [← Bool.and_assoc, e2, Bool.true_and, Bool.true_and] at k
          rw [Bool.and_eq_true] at e2
          have hne : tl z ≠ [] := fun q => by rw [q] at e2; exact absurd e2.1 (by decide)
          have hrd := read_tl e2.2 hne (Nat.le_trans h6 (by decide))
          walk_at "run"
          refine ⟨rfl, ?_⟩
          walk_at "go"
          refine ⟨_, _, rfl, rfl, ?_⟩
          rw [starts_tl]
          walk_at "go"
          refine r_dec (fun hs => ?_) (fun hs => ?_)
          · rw [decide_eq_true hs] at k
            walk_at "run"
            rw [zeroS]
            by_cases hz : tl z = [48]
            · rw [decide_eq_true hz] at k
              refine r_false (by rw [decide_eq_true (eq_one.mpr hz)]; rfl) ?_
              walk_at "run"
              exact ⟨_, _, rfl, hrd, by omega, k⟩
            · rw [decide_eq_false hz] at k
              refine r_true (by rw [decide_eq_false (fun q => hz (eq_one.mp q))]; rfl) ?_
              walk_at "run"
              exact k
          · rw [decide_eq_false hs, Bool.not_false, Bool.or_true] at k
            walk_at "run"
            exact ⟨_, _, rfl, hrd, by omega, k⟩
end
end Yk

set_option maxHeartbeats 4000000
namespace Yk
open PySem PySem.Spec PyProof.Rows L2 TL

/-! Amounts read from any data. -/
theorem rd_two {z : Str} {a b : List Nat} {r : List (List Nat)} (e : splS (tl z) = a :: b :: r) : rdD (.str z) = if goodB a = true ∧ goodB (joinL [47] (b :: r)) = true ∧ 2 ≤ numV (joinL [47] (b :: r)) ∧ Nat.gcd (numV a) (numV (joinL [47] (b :: r))) = 1 then some (numV a, numV (joinL [47] (b :: r))) else none := by
  show rdP (splS (tl z)) = _
  rw [e]
  cases r with
  | nil => rfl
  | cons c r =>
    rw [goodB_slash joinL_slash, if_neg (by simp)]
    rfl
theorem rd_one {z : Str} {a : List Nat} (e : splS (tl z) = [a]) : rdD (.str z) = if goodB a = true then some (numV a, 1) else none := by
  show rdP (splS (tl z)) = _
  rw [e]
  rfl
theorem am_nat (a b : Nat) : amD (.tuple [.int (a : Int), .int (b : Int)]) = (decide (1 ≤ b) && decide (Nat.gcd a b = 1)) := by
  show (decide (0 ≤ (a : Int)) && (decide (1 ≤ (b : Int)) && decide (Nat.gcd (a : Int).natAbs (b : Int).natAbs = 1))) = _
  rw [decide_eq_true (show 0 ≤ (a : Int) by omega), Bool.true_and]
  congr 1
  rw [Bool.eq_iff_iff, decide_eq_true_iff, decide_eq_true_iff]
  omega
theorem slash_ne : ((Str.ofString "/").length == 0) = false := by decide +kernel
theorem len_b {z : Str} {a b : List Nat} {r : List (List Nat)} (e : splS (tl z) = a :: b :: r) : (mkS a).length ≤ z.length ∧ (mkS (joinL [47] (b :: r))).length ≤ z.length := by
  have h := splS_join (tl z)
  rw [e] at h
  have h : a ++ ([47] ++ joinL [47] (b :: r)) = tl z := h
  rw [len_tlz z, ← h, len_tlz, len_tlz, tl_mkS, tl_mkS, List.length_append, List.length_append]
  omega
section
variable {P : Program} {w : World} {K : PySem.W.Frag} {mg : Str → Option Value} {base : Heap} {f : Addr} {fd : FuncData}
def spReadD (K : PySem.W.Frag) : Sp := fun vs H Q _ => ∃ (v : V) (d : PyData), vs = [v] ∧ Dp K H v d ∧ (∀ z, d = .str z → z.length ≤ 2010) ∧ ∀ v' H', Ext [] H H' → RdIs K H' v' (rdD d) → Q v' H'
abbrev s_read_amount : Stmt := top 28
theorem c_read_amount : FnScope ["text", "top_text", "sign", "bottom_text", "top", "bottom"] ["text"] (defScope s_read_amount) := ⟨rfl, rfl, rfl, by decide +kernel, rfl, by decide +kernel, by decide +kernel⟩
theorem f_read_amount (F : FunD K "read_amount" "read_amount" (defArgs s_read_amount) (defBody s_read_amount) (defScope s_read_amount) [] [] f fd) (hm : mg "read_amount" = some (.ref f)) (T : Bt mg) (TD : ∃ t, mg "TEXT_DIGITS" = some (.int 400 t)) (Fread_number : Fn P w K mg base 1 "read_number" (spReadN K)) (Fis_amount : Fn P w K mg base 2 "is_amount" (spIsAmD K)) : FnOk P w K mg base CX0 3 f fd ["text"] (spReadD K) := by
  refine ok_def F c_read_amount (fun vs H Q E h => ?_) (fun cdv A outer s H vs Q E hr h => ?_)
  · obtain ⟨v, d, rfl, _⟩ := h
    rfl
  · obtain ⟨v, d, rfl, hd, hz, k⟩ := h
    have nd := c_read_amount.nd
    obtain ⟨td, mt⟩ := TD
    refine ⟨_, (pss_cons (ps_if (pt_not (pt_val (pe_callB call_isi (by rfl) T.isinstance (by decide +kernel) (pa_cons (pv 0) (pa_cons (pe_bltn (v := .ty "str") (by rfl) T.str (by decide +kernel) rfl) pa_nil)))))
        (pss_one (ps_ret pe_non))
        pss_nil)
      (pss_cons (ps_asg (pe_partition (pv 0) pe_str) (pg_tup rfl (pgs_cons (pg_name (i := 1) nd rfl (by first | exact Or.inl rfl | exact Or.inr rfl)) (pgs_cons (pg_name (i := 2) nd rfl (by first | exact Or.inl rfl | exact Or.inr rfl)) (pgs_cons (pg_name (i := 3) nd rfl (by first | exact Or.inl rfl | exact Or.inr rfl)) pgs_nil)))))
      (pss_cons (ps_set (i := 4) nd rfl (by first | exact Or.inl rfl | exact Or.inr rfl) (pe_fn Fread_number (hr.mono (by decide)) (pa_cons (pv 1) (pa_cons (pe_glob (v := .int 400) rfl mt ⟨_, rfl⟩) pa_nil))))
      (pss_cons (ps_if (pt_cmpR op_eq (pv 2) pe_str (nomark _))
        (pss_one (ps_set (i := 5) nd rfl (by first | exact Or.inl rfl | exact Or.inr rfl) pe_int))
        (pss_one (ps_set (i := 5) nd rfl (by first | exact Or.inl rfl | exact Or.inr rfl) (pe_fn Fread_number (hr.mono (by decide)) (pa_cons (pv 3) (pa_cons (pe_glob (v := .int 400) rfl mt ⟨_, rfl⟩) pa_nil))))))
      (pss_cons (ps_if (PW.pt (pw_or (pt_cmpR op_isN (pv 4) pe_non (nomark _)) (pw_or (pt_cmpR op_isN (pv 5) pe_non (nomark _)) (pw_or1 (PW.pt (pw_and (pt_cmpR op_ne (pv 2) pe_str (nomark _)) (pw_and1 (pt_cmpR op_lt (pv 5) pe_int (nomark _)))))))))
        (pss_one (ps_ret pe_non))
        pss_nil)
      (pss_cons (ps_if (pt_not (pt_val (pe_fn Fis_amount (hr.mono (by decide)) (pa_cons (pe_tup (pa_cons (pv 4) (pa_cons (pv 5) pa_nil))) pa_nil))))
        (pss_one (ps_ret pe_non))
        pss_nil)
      (pss_one (ps_ret (pe_tup (pa_cons (pv 4) (pa_cons (pv 5) pa_nil))))))))))), ?_⟩
    show (_ : TS) _ [some _, none, none, none, none, none] _
    try dsimp only [cxOf, Cx.nox]
    cases hd with
    | non => walk_at "run"; exact k _ _ Ext.refl (.inl ⟨rfl, rfl⟩)
    | bl b => walk_at "run"; exact k _ _ Ext.refl (.inl ⟨rfl, rfl⟩)
    | int i => walk_at "run"; exact k _ _ Ext.refl (.inl ⟨rfl, rfl⟩)
    | lst h g => walk_at "run"; exact k _ _ Ext.refl (.inl ⟨rfl, rfl⟩)
    | tup h g => walk_at "run"; exact k _ _ Ext.refl (.inl ⟨rfl, rfl⟩)
    | str z =>
      have lz := hz z rfl
      walk_at "run"
      refine r_M1 ?_
      walk_at "go"
      refine ⟨⟨_, rfl⟩, ?_⟩
      walk_at "go"
      refine ⟨_, _, rfl, rfl, slash_ne, Nat.le_trans lz (by decide), fun p hp => ?_⟩
      cases e : splS (tl z) with
      | nil => exact absurd e (splS_ne _)
      | cons a r =>
        cases r with
        | nil =>
          obtain ⟨ep, ea⟩ := part_tx1 e
          rw [rd_one e, ← ea] at k
          rw [ep]
          dsimp only
          walk_at "go"
          refine ⟨z, rfl, lz, ?_⟩
          by_cases hg : goodB (tl z) = true
          · rw [if_pos hg] at k ⊢
            walk_at "go"
            refine r_true (show decide (V.str Str.empty = V.str (Str.ofString "")) = true by decide +kernel) ?_
            walk_at "run"
            try refine r_false (show (!decide (V.str Str.empty = V.str (Str.ofString ""))) = false by decide +kernel) ?_
            walk_at "run"
            refine ⟨_, .tuple [.int ((numV (tl z) : Nat) : Int), .int ((1 : Nat) : Int)], rfl, .tup tupS (.cons (.int _) (.cons (.int _) .nil)), ?_⟩
            rw [am_nat, decide_eq_true (Nat.gcd_one_right _), decide_eq_true (Nat.le_refl 1)]
            walk_at "run"
            exact k _ _ (by walk_at "ext") (.inr ⟨_, _, _, rfl, rfl, tupS⟩)
          · rw [if_neg hg] at k ⊢
            walk_at "go"
            refine r_true (show decide (V.str Str.empty = V.str (Str.ofString "")) = true by decide +kernel) ?_
            walk_at "run"
            exact k _ _ (by walk_at "ext") (.inl ⟨rfl, rfl⟩)
        | cons b r =>
          obtain ⟨la, lb⟩ := len_b e
          rw [rd_two e] at k
          rw [part_tx2 e]
          generalize joinL [47] (b :: r) = B at *
          dsimp only
          walk_at "go"
          refine ⟨mkS a, rfl, Nat.le_trans la lz, ?_⟩
          rw [tl_mkS]
          walk_at "go"
          refine r_false (show decide (V.str (Str.ofString "/") = V.str (Str.ofString "")) = false by decide +kernel) ?_
          walk_at "go"
          refine ⟨mkS B, rfl, Nat.le_trans lb lz, ?_⟩
          rw [tl_mkS]
          by_cases ha : goodB a = true
          · by_cases hb : goodB B = true
            · rw [if_pos ha, if_pos hb]
              walk_at "run"
              try refine r_true (show (!decide (V.str (Str.ofString "/") = V.str (Str.ofString ""))) = true by decide +kernel) ?_
              walk_at "run"
              refine r_dec (fun h2 => ?_) (fun h2 => ?_)
              · rw [if_neg (fun q => absurd q.2.2.1 (by omega))] at k
                walk_at "run"
                exact k _ _ (by walk_at "ext") (.inl ⟨rfl, rfl⟩)
              · walk_at "run"
                refine ⟨_, .tuple [.int ((numV a : Nat) : Int), .int ((numV B : Nat) : Int)], rfl, .tup tupS (.cons (.int _) (.cons (.int _) .nil)), ?_⟩
                rw [am_nat, decide_eq_true (show 1 ≤ numV B by omega), Bool.true_and]
                by_cases hgc : Nat.gcd (numV a) (numV B) = 1
                · rw [if_pos ⟨ha, hb, by omega, hgc⟩] at k
                  rw [decide_eq_true hgc]
                  walk_at "run"
                  exact k _ _ (by walk_at "ext") (.inr ⟨_, _, _, rfl, rfl, tupS⟩)
                · rw [if_neg (fun q => hgc q.2.2.2)] at k
                  rw [decide_eq_false hgc]
                  walk_at "run"
                  exact k _ _ (by walk_at "ext") (.inl ⟨rfl, rfl⟩)
            · rw [if_neg (fun q => hb q.2.1)] at k
              rw [if_pos ha, if_neg hb]
              walk_at "run"
              exact k _ _ (by walk_at "ext") (.inl ⟨rfl, rfl⟩)
          · rw [if_neg (fun q => ha q.1)] at k
            rw [if_neg ha]
            generalize (if goodB B = true then V.int ((numV B : Nat) : Int) else V.non) = vb
            walk_at "run"
            exact k _ _ (by walk_at "ext") (.inl ⟨rfl, rfl⟩)
def spDigits (K : PySem.W.Frag) : Sp := fun vs H Q _ => ∃ (z : Str), vs = [.str z] ∧ z.length ≤ 2010 ∧ ∀ H', Ext [] H H' → Q (.bl (goodB (tl z))) H'
abbrev s_law_digits : Stmt := top 50
theorem c_law_digits : FnScope ["_law_word", "_law_c"] ["_law_word"] (defScope s_law_digits) := ⟨rfl, rfl, rfl, by decide +kernel, rfl, by decide +kernel, by decide +kernel⟩
theorem f_law_digits (F : FunD K "_law_digits" "_law_digits" (defArgs s_law_digits) (defBody s_law_digits) (defScope s_law_digits) [] [] f fd) (hm : mg "_law_digits" = some (.ref f)) (T : Bt mg) : Fn P w K mg base 1 "_law_digits" (spDigits K) := by
  refine fn_def F hm c_law_digits (fun vs H Q E h => ?_) (fun _ _ _ _ _ _ us hl => match us, hl with | [_], _ => rfl) (fun cdv A outer s H vs Q E hr h => ?_)
  · obtain ⟨z, rfl, _⟩ := h
    rfl
  · obtain ⟨z, rfl, lz, k⟩ := h
    have nd := c_law_digits.nd
    refine ⟨_, (pss_cons (ps_if (PW.pt (pw_or (pt_cmpR op_eq (pv 0) pe_str (nomark _)) (pw_or (pt_not (pt_val (pe_callB (cr_all rfl) (by rfl) T.all (by decide +kernel) (pa_cons (pe_lc (own := [("_law_c", 1)]) (g := gName 1) rfl nd (pi_str (pv 0)) (blkOk_by (N := ["_law_word", "_law_c"]) (sc := defScope s_law_digits) (by decide +kernel)) (fun _ _ _ _ _ => pg_name (i := 1) nd rfl (Or.inl rfl)) (fun _ _ _ _ _ => pts_nil) (fun _ _ _ _ _ => (pe_cmpR op_inS (pv 1) pe_str (by rfl) : PE _ _ (tOp rInStr _ _)))) pa_nil)))) (pw_or1 (pt_cmpR op_gt (pe_callB call_len_str (by rfl) T.len (by decide +kernel) (pa_cons (pv 0) pa_nil)) pe_int (nomark _))))))
        (pss_one (ps_ret pe_bl))
        pss_nil)
      (pss_one (ps_ret (pe_or (pe_cmpR op_eq (pv 0) pe_str (nomark _)) (pe_one (pe_cmpR op_ne (pe_ix ix_str (pv 0) pe_int (fun _ _ => rfl)) pe_str (nomark _))))))), ?_⟩
    show (_ : TS) _ [some _, none] _
    try dsimp only [cxOf, Cx.nox]
    have lz2 := lz
    rw [len_tlz] at lz2
    unfold goodB at k
    rw [← len_tlz] at k
    walk_at "go"
    refine r_dec (fun h0 => ?_) (fun h0 => ?_)
    · rw [eq_empty.mp h0] at k
      walk_at "run"
      exact k _ Ext.refl
    · have hne : tl z ≠ [] := fun q => h0 (eq_empty.mpr q)
      have e0 : (tl z).isEmpty = false := by cases h : tl z with | nil => exact absurd h hne | cons _ _ => rfl
      rw [e0, Bool.not_false, Bool.true_and] at k
      walk_at "go"
      refine ⟨_, rfl, z, rfl, fun D hD => ?_⟩
      refine r_lcS (z := z) (fun i H1 => H1 D = some (.lst ((((tl z).take i).map dg).map V.bl)) ∧ Ext [] H H1) ⟨upd_same, Ext.refl.new hD⟩ ?_ ?_
      · rintro i c H1 hc ⟨hb1, n1⟩
        have hi := (List.getElem?_eq_some_iff.mp hc).1
        have hlen : ((((tl z).take i).map dg).map V.bl).length ≤ 4000 := by simp; omega
        walk_at "go"
        refine ⟨rfl, ?_⟩
        walk_at "go"
        refine ⟨_, _, rfl, rfl, ?_⟩
        rw [found_dg]
        refine ⟨_, hb1, Nat.lt_of_le_of_lt hlen (by decide), ?_, n1.own hD⟩
        rw [upd_same, List.take_add_one, hc]
        simp
      · rintro H1 ⟨hb1, n1⟩
        rw [List.take_length] at hb1
        have k := k H1 n1
        walk_at "go"
        refine r_all (bs := (tl z).map dg) (.inl (.inl hb1)) ?_
        rw [show ((tl z).map dg).all id = (tl z).all dg by rw [List.all_map]; rfl]
        cases ea : (tl z).all dg with
        | false =>
          rw [ea, Bool.false_and] at k
          walk_at "run"
          exact k
        | true =>
          rw [ea, Bool.true_and] at k
          walk_at "run"
          refine ⟨_, rfl, Nat.le_trans lz (by decide), ?_⟩
          walk_at "go"
          refine r_dec (fun h4 => ?_) (fun h4 => ?_)
          · rw [decide_eq_false (show ¬ z.length ≤ 400 by omega), Bool.false_and] at k
            walk_at "run"
            exact k
          · rw [decide_eq_true (show z.length ≤ 400 by omega), Bool.true_and] at k
            walk_at "go"
            rw [zeroS]
            by_cases hz : tl z = [48]
            · rw [decide_eq_true hz] at k
              refine r_true (decide_eq_true (eq_one.mpr hz)) ?_
              walk_at "run"
              exact k
            · rw [decide_eq_false hz, Bool.false_or] at k
              refine r_false (decide_eq_false fun q => hz (eq_one.mp q)) ?_
              walk_at "run"
              obtain ⟨c0, r0, er⟩ : ∃ c0 r0, tl z = c0 :: r0 := by cases h : tl z with | nil => exact absurd h hne | cons c r => exact ⟨c, r, rfl⟩
              rw [er] at k
              refine ⟨z, 0, c0, rfl, rfl, Nat.le_trans lz (by decide), ?_, ?_⟩
              · show atI (tl z) 0 = some c0
                rw [er]
                exact atI_nat (xs := c0 :: r0) (j := 0) (v := c0) rfl
              · walk_at "run"
                have e3 : decide (V.str (⟨#[c0]⟩ : Str) = V.str ⟨#[48]⟩) = decide ((c0 :: r0).head? = some 48) := by
                  rw [Bool.eq_iff_iff, decide_eq_true_iff, decide_eq_true_iff, eq_one]
                  show [c0] = [48] ↔ some c0 = some 48
                  simp
                rw [e3]
                exact k
end
end Yk

set_option maxHeartbeats 4000000
namespace Yk
open PySem PySem.Spec PyProof.Rows L2 TL

/-! The law's own reader, and bent texts. -/
theorem rd_three : ∀ {ps : List (List Nat)}, 2 < ps.length → rdP ps = none
  | [], h => by simp at h
  | [_], h => by simp at h
  | [_, _], h => by simp at h
  | _ :: _ :: _ :: _, _ => rfl
theorem rd_bad : ∀ {ps : List (List Nat)}, ps.all goodB = false → rdP ps = none
  | [], _ => rfl
  | [a], h => by
    have : goodB a = false := by simpa using h
    show (if goodB a = true then some (numV a, 1) else none) = none
    rw [this]
    rfl
  | [a, b], h => by
    show (if goodB a = true ∧ goodB b = true ∧ 2 ≤ numV b ∧ Nat.gcd (numV a) (numV b) = 1 then some (numV a, numV b) else none) = none
    rw [if_neg]
    rintro ⟨h1, h2, _⟩
    simp [h1, h2] at h
  | _ :: _ :: _ :: _, _ => rfl
theorem eqv_low {a b : Nat} (hb : 0 < b) : PyData.eqv (.tuple [.int (mkRat (a : Int) b).num, .int ((mkRat (a : Int) b).den : Int)]) (.tuple [.int (a : Int), .int (b : Int)]) = decide (Nat.gcd a b = 1) := by
  obtain ⟨m1, m2⟩ := mk_parts a b hb
  rw [Bool.eq_iff_iff, decide_eq_true_iff, ← gcd_low hb, m1, m2]
  generalize a / Nat.gcd a b = qa
  generalize b / Nat.gcd a b = qb
  simp [PyData.eqv, PyData.eqvAll]
  omega
section
variable {K : PySem.W.Frag}
theorem of_all {H : Hp} {b : Bag} {l : Addr} {xs : List V} {Pv : V → Prop} {Q : VK} {E : XK} (hb : BagAt K H b) (hl : SqL K H l xs) (hne : b.a ≠ l) (h0 : 0 < xs.length) (h4 : xs.length ≤ 4000) (hall : ∀ v ∈ xs, Pv v)
    (k : ∀ v H', Pv v → BagAt K H' b → Ext [b.a] H H' → Q v H') : spOf K [.ref b.a, .ref l] H Q E :=
  ⟨b, l, xs, rfl, hb, hl, hne, h0, h4, fun i v H' hv hb' e => k v H' (hall v (List.mem_of_getElem? hv)) hb' e⟩
end
section
variable {P : Program} {w : World} {K : PySem.W.Frag} {mg : Str → Option Value} {base : Heap} {f : Addr} {fd : FuncData}
abbrev s_law_read : Stmt := top 51
theorem c_law_read : FnScope ["_law_word", "_law_halves", "_law_half", "_law_a", "_law_b"] ["_law_word"] (defScope s_law_read) := ⟨rfl, rfl, rfl, by decide +kernel, rfl, by decide +kernel, by decide +kernel⟩
theorem f_law_read (F : FunD K "_law_read" "_law_read" (defArgs s_law_read) (defBody s_law_read) (defScope s_law_read) [] [] f fd) (hm : mg "_law_read" = some (.ref f)) (T : Bt mg) (F_law_digits : Fn P w K mg base 1 "_law_digits" (spDigits K)) (F_law_pair : Fn P w K mg base 1 "_law_pair" (spPair K)) : Fn P w K mg base 2 "_law_read" (spReadD K) := by
  refine fn_def F hm c_law_read (fun vs H Q E h => ?_) (fun _ _ _ _ _ _ us hl => match us, hl with | [_], _ => rfl) (fun cdv A outer s H vs Q E hr h => ?_)
  · obtain ⟨v, d, rfl, _⟩ := h
    rfl
  · obtain ⟨v, d, rfl, hd, hz, k⟩ := h
    have nd := c_law_read.nd
    refine ⟨_, (pss_cons (ps_if (pt_not (pt_val (pe_callB call_isi (by rfl) T.isinstance (by decide +kernel) (pa_cons (pv 0) (pa_cons (pe_bltn (v := .ty "str") (by rfl) T.str (by decide +kernel) rfl) pa_nil)))))
        (pss_one (ps_ret pe_non))
        pss_nil)
      (pss_cons (ps_set (i := 1) nd rfl (by first | exact Or.inl rfl | exact Or.inr rfl) (pe_split (pv 0) pe_str))
      (pss_cons (ps_if (PW.pt (pw_or (pt_cmpR op_gt (pe_callB cr_len (by rfl) T.len (by decide +kernel) (pa_cons (pv 1) pa_nil)) pe_int (nomark _)) (pw_or1 (pt_not (pt_val (pe_callB (cr_all rfl) (by rfl) T.all (by decide +kernel) (pa_cons (pe_lc (own := [("_law_half", 2)]) (g := gName 2) rfl nd (pi_list (pv 1)) (blkOk_by (N := ["_law_word", "_law_halves", "_law_half", "_law_a", "_law_b"]) (sc := defScope s_law_read) (by decide +kernel)) (fun _ _ _ _ _ => pg_name (i := 2) nd rfl (Or.inl rfl)) (fun _ _ _ _ _ => pts_nil) (fun _ _ _ _ _ => (pe_fn F_law_digits (hr.mono (by decide)) (pa_cons (pv 2) pa_nil)))) pa_nil)))))))
        (pss_one (ps_ret pe_non))
        pss_nil)
      (pss_cons (ps_if (pt_cmpR op_eq (pe_callB cr_len (by rfl) T.len (by decide +kernel) (pa_cons (pv 1) pa_nil)) pe_int (nomark _))
        (pss_one (ps_ret (pe_tup (pa_cons (pe_callTy call_int_str (by rfl) T.int (by decide +kernel) (pa_cons (pv 0) pa_nil)) (pa_cons pe_int pa_nil)))))
        pss_nil)
      (pss_cons (ps_set (i := 3) nd rfl (by first | exact Or.inl rfl | exact Or.inr rfl) (pe_callTy call_int_str (by rfl) T.int (by decide +kernel) (pa_cons (pe_ix ix_list (pv 1) pe_int (fun _ _ => rfl)) pa_nil)))
      (pss_cons (ps_set (i := 4) nd rfl (by first | exact Or.inl rfl | exact Or.inr rfl) (pe_callTy call_int_str (by rfl) T.int (by decide +kernel) (pa_cons (pe_ix ix_list (pv 1) pe_int (fun _ _ => rfl)) pa_nil)))
      (pss_one (ps_ret (pe_ifExp (PW.pt (pw_and (pt_cmpR op_gt (pv 4) pe_int (nomark _)) (pw_and1 (pt_cmpR (op_eqD hr.units) (pe_fn F_law_pair (hr.mono (by decide)) (pa_cons (pv 3) (pa_cons (pv 4) pa_nil))) (pe_tup (pa_cons (pv 3) (pa_cons (pv 4) pa_nil))) (nomark _))))) (pe_tup (pa_cons (pv 3) (pa_cons (pv 4) pa_nil))) pe_non))))))))), ?_⟩
    show (_ : TS) _ [some _, none, none, none, none] _
    try dsimp only [cxOf, Cx.nox]
    cases hd with
    | non => walk_at "run"; exact k _ _ Ext.refl (.inl ⟨rfl, rfl⟩)
    | bl b => walk_at "run"; exact k _ _ Ext.refl (.inl ⟨rfl, rfl⟩)
    | int i => walk_at "run"; exact k _ _ Ext.refl (.inl ⟨rfl, rfl⟩)
    | lst h g => walk_at "run"; exact k _ _ Ext.refl (.inl ⟨rfl, rfl⟩)
    | tup h g => walk_at "run"; exact k _ _ Ext.refl (.inl ⟨rfl, rfl⟩)
    | str z =>
      have lz := hz z rfl
      have k : ∀ v' H', Ext [] H H' → RdIs K H' v' (rdP (splS (tl z))) → Q v' H' := k
      have hpl := splS_len (z := z)
      have hjn := splS_join (tl z)
      have hne := splS_ne (tl z)
      walk_at "run"
      refine r_M1 ?_
      walk_at "go"
      refine ⟨⟨_, rfl⟩, ?_⟩
      walk_at "go"
      refine ⟨_, _, rfl, rfl, slash_ne, Nat.le_trans (Nat.add_le_add_right lz 2) (by decide), fun p hp => ?_⟩
      rw [split_tx]
      generalize splS (tl z) = ps at *
      have e0 : Ext [] H (upd H p (.lst ((ps.map mkS).map V.str))) := Ext.refl.new hp
      have hp0 : upd H p (.lst ((ps.map mkS).map V.str)) p = some (.lst ((ps.map mkS).map V.str)) := upd_same
      have lxs : ((ps.map mkS).map V.str).length = ps.length := by simp
      generalize upd H p (.lst ((ps.map mkS).map V.str)) = H0 at *
      walk_at "go"
      refine r_len (.inl (.inl (.inl hp0))) ?_
      rw [lxs]
      walk_at "go"
      refine r_dec (fun h3 => ?_) (fun h3 => ?_)
      · rw [rd_three (by omega)] at k
        walk_at "run"
        exact k _ _ e0 (.inl ⟨rfl, rfl⟩)
      · walk_at "go"
        refine ⟨p, rfl, ⟨_, .inl (.inl hp0)⟩, fun D hD => ?_⟩
        refine r_lcL (xs := (ps.map mkS).map V.str) (fun i H1 => H1 D = some (.lst (((ps.take i).map goodB).map V.bl)) ∧ Ext [] H0 H1) ⟨upd_same, Ext.refl.new hD⟩ ?_ ?_ ?_
        · rintro i H1 hi ⟨_, n1⟩
          exact .inl (.inl (n1 _ _ hp0 fun q => nomatch q))
        · rintro i x H1 hx ⟨hb1, n1⟩
          obtain ⟨q, hq, rfl⟩ : ∃ q, ps[i]? = some q ∧ x = V.str (mkS q) := by
            rw [List.getElem?_map, List.getElem?_map] at hx
            cases e : ps[i]? with
            | none => rw [e] at hx; cases hx
            | some q => rw [e] at hx; exact ⟨q, rfl, (Option.some.inj hx).symm⟩
          have hi := (List.getElem?_eq_some_iff.mp hq).1
          have hlen : (((ps.take i).map goodB).map V.bl).length ≤ 4000 := by simp; omega
          have hql := hpl q (List.mem_of_getElem? hq)
          walk_at "go"
          refine ⟨rfl, ?_⟩
          walk_at "go"
          refine ⟨mkS q, rfl, by rw [len_tlz, tl_mkS]; omega, fun H2 n2 => ?_⟩
          refine ⟨_, n2 _ _ hb1 (fun q => nomatch q), Nat.lt_of_le_of_lt hlen (by decide), ?_, (n1.trans n2).own hD⟩
          rw [upd_same, List.take_add_one, hq]
          simp [tl_mkS]
        · rintro H1 ⟨hb1, n1⟩
          rw [lxs, List.take_length] at hb1
          have hp1 := n1 _ _ hp0 fun q => nomatch q
          have e1 := e0.trans n1
          walk_at "go"
          refine r_all (bs := ps.map goodB) (.inl (.inl hb1)) ?_
          rw [show (ps.map goodB).all id = ps.all goodB by rw [List.all_map]; rfl]
          cases eg : ps.all goodB with
          | false =>
            rw [rd_bad eg] at k
            walk_at "run"
            exact k _ _ e1 (.inl ⟨rfl, rfl⟩)
          | true =>
            walk_at "run"
            refine r_len (.inl (.inl (.inl hp1))) ?_
            rw [lxs]
            walk_at "go"
            have gd : ∀ q ∈ ps, goodB q = true := fun q hq => List.all_eq_true.mp eg q hq
            have rdq : ∀ q ∈ ps, PySem.intText? (mkS q) = some ((numV q : Nat) : Int) ∧ (mkS q).length ≤ 640 := fun q hq => by
              have g := gd q hq
              unfold goodB at g
              simp only [Bool.and_eq_true, decide_eq_true_eq, Bool.not_eq_true'] at g
              have l4 : (mkS q).length ≤ 400 := by rw [len_tlz, tl_mkS]; exact g.2.2.1
              refine ⟨read_tl (z := mkS q) g.2.1 (fun e => ?_) (by omega), by omega⟩
              rw [tl_mkS] at e
              rw [e] at g
              exact absurd g.1 (by decide)
            match ps, h3 with
            | [], _ =>
              exact absurd rfl hne
            | [a], _ =>
              refine r_true (by simp) ?_
              obtain ⟨r1, r2⟩ := rdq a List.mem_cons_self
              have ez : z = mkS a := by
                have : a = tl z := hjn
                rw [this, mkS_tl]
              walk_at "run"
              rw [ez]
              refine ⟨_, _, rfl, r1, r2, ?_⟩
              walk_at "run"
              refine k _ _ (e1.new (by assumption)) (.inr ⟨_, numV a, 1, ?_, rfl, tupS⟩)
              show (if goodB a = true then some (numV a, 1) else none) = _
              rw [if_pos (gd a List.mem_cons_self)]
            | [a, b], _ =>
              refine r_false (by simp) ?_
              obtain ⟨r1, r2⟩ := rdq a List.mem_cons_self
              obtain ⟨r3, r4⟩ := rdq b (List.mem_cons_of_mem _ List.mem_cons_self)
              have ga := gd a List.mem_cons_self
              have gb := gd b (List.mem_cons_of_mem _ List.mem_cons_self)
              have k : ∀ v' H', Ext [] H H' → RdIs K H' v' (if goodB a = true ∧ goodB b = true ∧ 2 ≤ numV b ∧ Nat.gcd (numV a) (numV b) = 1 then some (numV a, numV b) else none) → Q v' H' := k
              walk_at "run"
              refine r_ixL (.inl (.inl hp1)) (at_n (n := 0) rfl rfl) ?_
              refine ⟨_, _, rfl, r1, r2, ?_⟩
              walk_at "run"
              refine r_ixL (.inl (.inl hp1)) (at_n (n := 1) rfl rfl) ?_
              refine ⟨_, _, rfl, r3, r4, ?_⟩
              walk_at "run"
              refine r_dec (fun h2 => ?_) (fun h2 => ?_)
              · walk_at "run"
                refine ⟨numV a, numV b, rfl, by omega, Nat.lt_of_lt_of_le (numV_big ga) (Nat.pow_le_pow_right (by decide) (by decide)), Nat.lt_of_lt_of_le (numV_big gb) (Nat.pow_le_pow_right (by decide) (by decide)), fun v3 H3 n3 a3 => ?_⟩
                walk_at "go"
                rename_i t ht
                have m4 := (Ext.refl (S := []) (H := H3)).new (o := .tup [V.int ((numV a : Nat) : Int), V.int ((numV b : Nat) : Int)]) ht
                refine ⟨_, _, dp_am (a3.x0 m4), .tup tupS (.cons (.int _) (.cons (.int _) .nil)), rfl, rfl, ?_⟩
                rw [eqv_low (by omega)]
                have e4 := (e1.trans n3).trans m4
                by_cases hgc : Nat.gcd (numV a) (numV b) = 1
                · rw [if_pos ⟨ga, gb, by omega, hgc⟩] at k
                  rw [decide_eq_true hgc]
                  walk_at "run"
                  exact k _ _ (e4.new (by assumption)) (.inr ⟨_, _, _, rfl, rfl, tupS⟩)
                · rw [if_neg (fun q => hgc q.2.2.2)] at k
                  rw [decide_eq_false hgc]
                  walk_at "run"
                  exact k _ _ e4 (.inl ⟨rfl, rfl⟩)
              · rw [if_neg (fun q => absurd q.2.2.1 (by omega))] at k
                walk_at "run"
                exact k _ _ e1 (.inl ⟨rfl, rfl⟩)
            | _ :: _ :: _ :: _, h3 => simp at h3; omega
def spCount (K : PySem.W.Frag) : Sp := fun vs H Q _ => ∃ b : Bag, vs = [.ref b.a] ∧ BagAt K H b ∧ ∀ (x : Int) H', 0 ≤ x → x ≤ 1000000000 → BagAt K H' b → Ext [b.a] H H' → Q (.int x) H'
abbrev s_law_count : Stmt := top 53
theorem c_law_count : FnScope ["_law_bag_here"] ["_law_bag_here"] (defScope s_law_count) := ⟨rfl, rfl, rfl, by decide +kernel, rfl, by decide +kernel, by decide +kernel⟩
theorem f_law_count (F : FunD K "_law_count" "_law_count" (defArgs s_law_count) (defBody s_law_count) (defScope s_law_count) [] [] f fd) (hm : mg "_law_count" = some (.ref f)) (T : Bt mg) (F_law_draw : Fn P w K mg base 1 "_law_draw" (spDraw K)) (F_law_of : Fn P w K mg base 2 "_law_of" (spOf K)) : Fn P w K mg base 3 "_law_count" (spCount K) := by
  refine fn_def F hm c_law_count (fun vs H Q E h => ?_) (fun _ _ _ _ _ _ us hl => match us, hl with | [_], _ => rfl) (fun cdv A outer s H vs Q E hr h => ?_)
  · obtain ⟨b, rfl, _⟩ := h
    rfl
  · obtain ⟨b, rfl, hb, k⟩ := h
    have nd := c_law_count.nd
    refine ⟨_, (pss_one (ps_ret (pe_fn F_law_of (hr.mono (by decide)) (pa_cons (pv 0) (pa_cons (pe_lst (pa_cons pe_int (pa_cons pe_int (pa_cons pe_int (pa_cons pe_int (pa_cons (pe_fn F_law_draw (hr.mono (by decide)) (pa_cons (pv 0) (pa_cons pe_int pa_nil))) (pa_cons (pe_fn F_law_draw (hr.mono (by decide)) (pa_cons (pv 0) (pa_cons (pe_op op_pow pe_int pe_int) pa_nil))) pa_nil))))))) pa_nil))))), ?_⟩
    show (_ : TS) _ [some _] _
    try dsimp only [cxOf, Cx.nox]
    walk_at "go"
    refine ⟨b, _, rfl, by decide, by decide, hb, fun x1 H1 l1 u1 b1 n1 => ?_⟩
    walk_at "go"
    refine ⟨b, _, rfl, by decide, by decide, b1, fun x2 H2 l2 u2 b2 n2 => ?_⟩
    rw [e9] at u2
    walk_at "go"
    rename_i l hl
    refine of_all (Pv := fun v => ∃ x : Int, v = .int x ∧ 0 ≤ x ∧ x ≤ 1000000000) (b2.new hl) lstS (b2.ne hl) (Nat.succ_pos _) (by simp) (fun v hv => ?_) fun v H3 hv b3 n3 => ?_
    · simp only [List.mem_cons, List.not_mem_nil, or_false] at hv
      rcases hv with rfl | rfl | rfl | rfl | rfl | rfl <;> exact ⟨_, rfl, by omega, by omega⟩
    · obtain ⟨x, rfl, h0, h9⟩ := hv
      exact k x H3 h0 h9 b3 ((n1.trans n2).trans ((Ext.refl.new hl).trans n3))
def spBent (K : PySem.W.Frag) : Sp := fun vs H Q _ => ∃ (b : Bag) (z : Str), vs = [.ref b.a, .str z] ∧ BagAt K H b ∧ z.length ≤ 1000 ∧ ∀ (z' : Str) H', z'.length ≤ 2010 → BagAt K H' b → Ext [b.a] H H' → Q (.str z') H'
abbrev s_law_bent : Stmt := top 52
theorem c_law_bent : FnScope ["_law_bag_here", "_law_word", "_law_spot", "_law_sign"] ["_law_bag_here", "_law_word"] (defScope s_law_bent) := ⟨rfl, rfl, rfl, by decide +kernel, rfl, by decide +kernel, by decide +kernel⟩
theorem f_law_bent (F : FunD K "_law_bent" "_law_bent" (defArgs s_law_bent) (defBody s_law_bent) (defScope s_law_bent) [] [] f fd) (hm : mg "_law_bent" = some (.ref f)) (T : Bt mg) (F_law_draw : Fn P w K mg base 1 "_law_draw" (spDraw K)) (F_law_of : Fn P w K mg base 2 "_law_of" (spOf K)) : Fn P w K mg base 3 "_law_bent" (spBent K) := by
  refine fn_def F hm c_law_bent (fun vs H Q E h => ?_) (fun _ _ _ _ _ _ us hl => match us, hl with | [_, _], _ => rfl) (fun cdv A outer s H vs Q E hr h => ?_)
  · obtain ⟨b, z, rfl, _⟩ := h
    rfl
  · obtain ⟨b, z, rfl, hb, lz, k⟩ := h
    have nd := c_law_bent.nd
    refine ⟨_, (pss_cons (ps_set (i := 2) nd rfl (by first | exact Or.inl rfl | exact Or.inr rfl) (pe_fn F_law_draw (hr.mono (by decide)) (pa_cons (pv 0) (pa_cons (pe_op op_add (pe_callB call_len_str (by rfl) T.len (by decide +kernel) (pa_cons (pv 1) pa_nil)) pe_int) pa_nil))))
      (pss_cons (ps_set (i := 3) nd rfl (by first | exact Or.inl rfl | exact Or.inr rfl) (pe_fn F_law_of (hr.mono (by decide)) (pa_cons (pv 0) (pa_cons (pe_lst (pa_cons pe_str (pa_cons pe_str (pa_cons pe_str (pa_cons pe_str (pa_cons pe_str (pa_cons pe_str (pa_cons pe_str (pa_cons pe_str (pa_cons pe_str (pa_cons pe_str (pa_cons pe_str (pa_cons pe_str (pa_cons pe_str (pa_cons pe_str pa_nil))))))))))))))) pa_nil))))
      (pss_one (ps_ret (pe_fn F_law_of (hr.mono (by decide)) (pa_cons (pv 0) (pa_cons (pe_lst (pa_cons (pe_op op_add_str (pe_op op_add_str (pe_slice sl_str (pv 1) po_none (po_some (pv 2))) (pv 3)) (pe_slice sl_str (pv 1) (po_some (pv 2)) po_none)) (pa_cons (pe_op op_add_str (pe_slice sl_str (pv 1) po_none (po_some (pv 2))) (pe_slice sl_str (pv 1) (po_some (pe_op op_add (pv 2) pe_int)) po_none)) (pa_cons (pe_op op_add_str (pe_op op_add_str (pe_slice sl_str (pv 1) po_none (po_some (pv 2))) (pv 3)) (pe_slice sl_str (pv 1) (po_some (pe_op op_add (pv 2) pe_int)) po_none)) (pa_cons (pe_op op_add_str (pv 1) (pv 3)) (pa_cons (pe_op op_add_str (pv 3) (pv 1)) pa_nil)))))) pa_nil))))))), ?_⟩
    show (_ : TS) _ [some _, some _, none, none] _
    try dsimp only [cxOf, Cx.nox]
    walk_at "go"
    refine ⟨z, rfl, Nat.le_trans lz (by decide), ?_⟩
    walk_at "go"
    refine ⟨b, _, rfl, by omega, Int.lt_of_le_of_lt (by omega : (z.length : Int) + 1 ≤ 4000) (by decide), hb, fun x1 H1 l1 u1 b1 n1 => ?_⟩
    walk_at "go"
    rename_i p hp
    refine of_all (Pv := fun v => ∃ s : Str, v = .str s ∧ s.length ≤ 2) (b1.new hp) lstS (b1.ne hp) (by decide) (by decide) (fun v hv => ?_) fun v H2 hv b2 n2 => ?_
    · simp only [List.mem_cons, List.not_mem_nil, or_false] at hv
      rcases hv with rfl | rfl | rfl | rfl | rfl | rfl | rfl | rfl | rfl | rfl | rfl | rfl | rfl | rfl <;> exact ⟨_, rfl, by decide +kernel⟩
    · obtain ⟨s1, rfl, ls⟩ := hv
      have c1 : ∀ lo hi, (cutS z lo hi).length ≤ 1000 := fun lo hi => Nat.le_trans (cutS_length z lo hi) lz
      have hz : z.length ≤ sizeLine := Nat.le_trans lz (by decide)
      have h4 : ∀ n : Nat, n ≤ 4000 → n ≤ sizeLine := fun n h => Nat.le_trans h (by decide)
      have q1 := c1 none (some x1)
      have q2 := c1 (some x1) none
      have q3 := c1 (some (x1 + 1)) none
      have a1 := len_app (cutS z none (some x1)) s1
      have a2 := len_app (cutS z none (some x1) ++ s1) (cutS z (some x1) none)
      have a3 := len_app (cutS z none (some x1)) (cutS z (some (x1 + 1)) none)
      have a4 := len_app (cutS z none (some x1) ++ s1) (cutS z (some (x1 + 1)) none)
      have a5 := len_app z s1
      have a6 := len_app s1 z
      walk_at "go"
      refine ⟨z, rfl, hz, ?_⟩
      walk_at "go"
      refine ⟨_, _, rfl, rfl, h4 _ (by omega), ?_⟩
      walk_at "go"
      refine ⟨z, rfl, hz, ?_⟩
      walk_at "go"
      refine ⟨_, _, rfl, rfl, h4 _ (by omega), ?_⟩
      walk_at "go"
      refine ⟨z, rfl, hz, ?_⟩
      walk_at "go"
      refine ⟨z, rfl, hz, ?_⟩
      walk_at "go"
      refine ⟨_, _, rfl, rfl, h4 _ (by omega), ?_⟩
      walk_at "go"
      refine ⟨z, rfl, hz, ?_⟩
      walk_at "go"
      refine ⟨_, _, rfl, rfl, h4 _ (by omega), ?_⟩
      walk_at "go"
      refine ⟨z, rfl, hz, ?_⟩
      walk_at "go"
      refine ⟨_, _, rfl, rfl, h4 _ (by omega), ?_⟩
      walk_at "go"
      refine ⟨_, _, rfl, rfl, h4 _ (by omega), ?_⟩
      walk_at "go"
      refine ⟨_, _, rfl, rfl, h4 _ (by omega), ?_⟩
      walk_at "go"
      rename_i l hl
      refine of_all (Pv := fun v => ∃ s : Str, v = .str s ∧ s.length ≤ 2010) (b2.new hl) lstS (b2.ne hl) (Nat.succ_pos _) (by simp) (fun v hv => ?_) fun v H3 hv b3 n3 => ?_
      · simp only [List.mem_cons, List.not_mem_nil, or_false] at hv
        rcases hv with rfl | rfl | rfl | rfl | rfl <;> exact ⟨_, rfl, by omega⟩
      · obtain ⟨s2, rfl, l2⟩ := hv
        exact k s2 H3 l2 b3 ((n1.trans ((Ext.refl.new hp).trans n2)).trans ((Ext.refl.new hl).trans n3))
end
end Yk

set_option maxHeartbeats 4000000
namespace Yk
open PySem PySem.Spec PyProof.Rows L2 TL LamX

/-! What stays over a lambda; what was told. -/
/-- all but S and the tables stay -/
def ExtT (S : List Addr) (H H' : Hp) : Prop := ∀ b o, H b = some o → b ∉ S → (∀ ps, o ≠ .tbl ps) → H' b = some o
section
variable {K : PySem.W.Frag} {H H1 H2 : Hp} {S : List Addr} {T : List (Addr × Str)} {b : Bag} {v : V} {q : Rat}
theorem ExtT.of (e : Ext S H H1) : ExtT S H H1 := fun b o h n _ => e b o h n
theorem ExtT.n (e : ExtN H H1) : ExtT S H H1 := fun b o h _ n => e b o h n
theorem ExtT.trans (e : ExtT S H H1) (e2 : ExtT S H1 H2) : ExtT S H H2 := fun b o h n m => e2 b o (e b o h n m) n m
theorem extN_of (e : Ext [] H H1) : ExtN H H1 := fun b o h _ => e b o h fun z => nomatch z
theorem Am.e (e : ExtN H H1) (h : Am K H v q) : Am K H1 v q := by
  obtain ⟨a, rfl, h⟩ := h
  exact ⟨a, rfl, tupE e h⟩
theorem BagAt.e (e : ExtN H H1) (h : BagAt K H b) : BagAt K H1 b := by
  obtain ⟨l, h1, h2, h3, h4⟩ := h.ex
  exact ⟨l, e _ _ h1 (fun _ z => nomatch z), lstE e h2, h3, h4⟩
theorem Am.t (hb : BagAt K H b) (e : ExtT [b.a] H H1) (h : Am K H v q) : Am K H1 v q := by
  obtain ⟨a, rfl, h⟩ := h
  obtain ⟨l, hl⟩ := hb.lst
  refine ⟨a, rfl, ?_⟩
  rcases h with (h | ⟨o, h⟩) | h
  · exact .inl (.inl (e _ _ h (fun z => by rw [List.mem_singleton.mp z, hl] at h; cases h) fun _ z => nomatch z))
  · exact .inl (.inr ⟨o, e _ _ h (fun z => by rw [List.mem_singleton.mp z, hl] at h; cases h) fun _ z => nomatch z⟩)
  · exact .inr h
theorem Tabs.x0 (t : Tabs T H) (e : Ext [] H H1) : Tabs T H1 := t.ext fun b o h => e b o h fun z => nomatch z
theorem Tabs.bg (hb : BagAt K H b) (e : Ext [b.a] H H1) (t : Tabs T H) : Tabs T H1 := fun p hp => by
  obtain ⟨l, hl⟩ := hb.lst
  obtain ⟨ps, h1, h2, h3⟩ := t p hp
  refine ⟨ps, e _ _ h1 fun z => ?_, h2, fun pos cv hc => ?_⟩
  · rw [List.mem_singleton.mp z, hl] at h1
    cases h1
  · obtain ⟨c, e1, e2⟩ := h3 pos cv hc
    refine ⟨c, e1, e _ _ e2 fun z => ?_⟩
    rw [List.mem_singleton.mp z, hl] at e2
    unfold CodeO at e2
    cases e2
mutual
theorem dpe (e : ExtN H H1) : ∀ {v : V} {d : PyData}, Dp K H v d → Dp K H1 v d
  | _, _, .non => .non
  | _, _, .bl b => .bl b
  | _, _, .int i => .int i
  | _, _, .str z => .str z
  | _, _, .lst h g => .lst (lstE e h) (dpAlle e g)
  | _, _, .tup h g => .tup (tupE e h) (dpAlle e g)
theorem dpAlle (e : ExtN H H1) : ∀ {vs : List V} {ds : List PyData}, DpAll K H vs ds → DpAll K H1 vs ds
  | _, _, .nil => .nil
  | _, _, .cons h g => .cons (dpe e h) (dpAlle e g)
end
theorem DpAll.get : ∀ {vs : List V} {ds : List PyData} {i : Nat} {v : V}, DpAll K H vs ds → vs[i]? = some v → ∃ d, ds[i]? = some d ∧ Dp K H v d
  | _, _, 0, _, .cons h _, e => by cases e; exact ⟨_, rfl, h⟩
  | _, _, i + 1, _, .cons _ r, e => DpAll.get (i := i) r e
  | _, _, 0, _, .nil, e => by cases e
  | _, _, _ + 1, _, .nil, e => by cases e
theorem DpAll.len : ∀ {vs : List V} {ds : List PyData}, DpAll K H vs ds → vs.length = ds.length
  | _, _, .nil => rfl
  | _, _, .cons _ r => by rw [List.length_cons, List.length_cons, DpAll.len r]
end
def atomD : PyData → Bool
  | .none => true
  | .bool _ => true
  | .int _ => true
  | .str _ => true
  | _ => false
def flatD : PyData → Bool
  | .list ds => ds.all atomD && decide (ds.length ≤ 10)
  | .tuple ds => ds.all atomD && decide (ds.length ≤ 10)
  | d => atomD d
theorem atom_eqd {K : PySem.W.Frag} {H : Hp} {v : V} {d : PyData} (h : Dp K H v d) (f : atomD d = true) (n : Nat) : Eqd K H n v v := by
  cases h with
  | non => exact .non n
  | bl b => exact .bl n b
  | int i => exact .int n i
  | str z => exact .str n z
  | lst _ _ => cases f
  | tup _ _ => cases f
theorem flat_eqd {K : PySem.W.Frag} {H : Hp} {v : V} {d : PyData} (h : Dp K H v d) (f : flatD d = true) (n : Nat) : Eqd K H (n + 1) v v := by
  cases h with
  | non => exact .non _
  | bl b => exact .bl _ b
  | int i => exact .int _ i
  | str z => exact .str _ z
  | lst h g =>
    unfold flatD at f
    rw [Bool.and_eq_true, decide_eq_true_iff] at f
    refine .lst h h rfl (by rw [DpAll.len g]; omega) fun i x y hx hy => ?_
    rw [hx] at hy
    cases hy
    obtain ⟨d, hd, hp⟩ := DpAll.get g hx
    exact atom_eqd hp (List.all_eq_true.mp f.1 d (List.mem_of_getElem? hd)) n
  | tup h g =>
    unfold flatD at f
    rw [Bool.and_eq_true, decide_eq_true_iff] at f
    refine .tup h h rfl (by rw [DpAll.len g]; omega) fun i x y hx hy => ?_
    rw [hx] at hy
    cases hy
    obtain ⟨d, hd, hp⟩ := DpAll.get g hx
    exact atom_eqd hp (List.all_eq_true.mp f.1 d (List.mem_of_getElem? hd)) n
/-- what a call is to tell: an error's name and its field, or an amount -/
def TdIs (K : PySem.W.Frag) (H : Hp) (r : V) (o : Sum (Str × V) Rat) : Prop := ∃ D, r = .ref D ∧ match o with
  | .inl (n, v) => SqL K H D [.str n, v]
  | .inr q => ∃ v, SqL K H D [.str "told", v] ∧ Am K H v q
section
variable {K : PySem.W.Frag} {H H1 : Hp} {r r2 : V} {o : Sum (Str × V) Rat}
theorem TdIs.x0 (e : Ext [] H H1) (h : TdIs K H r o) : TdIs K H1 r o := by
  obtain ⟨D, rfl, h⟩ := h
  refine ⟨D, rfl, ?_⟩
  cases o with
  | inl z => exact lst0 e h
  | inr q => obtain ⟨v, h, a⟩ := h; exact ⟨v, lst0 e h, a.x0 e⟩
theorem TdIs.e (e : ExtN H H1) (h : TdIs K H r o) : TdIs K H1 r o := by
  obtain ⟨D, rfl, h⟩ := h
  refine ⟨D, rfl, ?_⟩
  cases o with
  | inl z => exact lstE e h
  | inr q => obtain ⟨v, h, a⟩ := h; exact ⟨v, lstE e h, a.e e⟩
theorem td_eqd (h1 : TdIs K H r o) (h2 : TdIs K H r2 o) (n : Nat) (hv : ∀ x v, o = .inl (x, v) → Eqd K H (n + 1) v v) : Eqd K H (n + 2) r r2 := by
  obtain ⟨D1, rfl, h1⟩ := h1
  obtain ⟨D2, rfl, h2⟩ := h2
  cases o with
  | inl z =>
    obtain ⟨x, v⟩ := z
    refine .lst h1 h2 rfl (show 2 ≤ 4000 by decide) fun i a b ha hb => ?_
    rw [ha] at hb
    cases hb
    match i, ha with
    | 0, ha => cases ha; exact .str _ _
    | 1, ha => cases ha; exact hv x v rfl
    | i + 2, ha => cases ha
  | inr q =>
    obtain ⟨v1, h1, a1⟩ := h1
    obtain ⟨v2, h2, a2⟩ := h2
    refine .lst h1 h2 rfl (show 2 ≤ 4000 by decide) fun i a b ha hb => ?_
    match i, ha, hb with
    | 0, ha, hb => cases ha; cases hb; exact .str _ _
    | 1, ha, hb => cases ha; cases hb; exact a1.eqd n a2
    | i + 2, ha, _ => cases ha
theorem list2_eqd {a b : Addr} {x1 x2 y1 y2 : V} {n : Nat} (h1 : SqL K H a [x1, x2]) (h2 : SqL K H b [y1, y2]) (e1 : Eqd K H n x1 y1) (e2 : Eqd K H n x2 y2) : Eqd K H (n + 1) (.ref a) (.ref b) := by
  refine .lst h1 h2 rfl (show 2 ≤ 4000 by decide) fun i x y hx hy => ?_
  match i, hx, hy with
  | 0, hx, hy => cases hx; cases hy; exact e1
  | 1, hx, hy => cases hx; cases hy; exact e2
  | i + 2, hx, _ => cases hx
end
/-- the two ends of told -/
def tdQ (Q : VK) : VK := fun v H' => [V.str "told", v].length ≤ sizeLine ∧ ∀ D, H' D = none → Q (.ref D) (upd H' D (.lst [.str "told", v]))
def tdE (cA cS : Addr) (Q : VK) : XK := fun cls d H' => ∃ (dd : Addr) (v : V), d = some dd ∧ ((cls = .ref cA ∧ H' dd = some (.xd [("value", v)]) ∧ ∀ D, H' D = none → Q (.ref D) (upd H' D (.lst [.str "BadAmount", v]))) ∨
    (cls = .ref cS ∧ H' dd = some (.xd [("amount", v)]) ∧ ∀ D, H' D = none → Q (.ref D) (upd H' D (.lst [.str "Short", v]))))
section
variable {K : PySem.W.Frag} {H : Hp} {Q : VK} {cA cS : Addr} {v v1 v2 : V} {p q : Rat}
theorem k_told {T : List (Addr × Str)} {t : XK → TE} {σ : L2.St} (hT : Tabs T H) (h : ∀ H1, ExtN H H1 → Tabs T H1 → t (tdE cA cS Q) σ H1 (tdQ Q)) : tLam T (TTold cA cS) t σ H Q := ⟨hT, h⟩
theorem td_ok (k : ∀ r H', Ext [] H H' → TdIs K H' r (.inr q) → Q r H') {H1 : Hp} (e : Ext [] H H1) (a : Am K H1 v q) : tdQ Q v H1 := by
  refine ⟨show 2 ≤ sizeLine by decide, fun D hD => k _ _ (e.new hD) ⟨D, rfl, v, lstS, a.x0 (Ext.refl.new hD)⟩⟩
theorem td_bad (k : ∀ r H', Ext [] H H' → TdIs K H' r (.inl ("BadAmount", v)) → Q r H') {d : Addr} (hd : H d = none) : tdE cA cS Q (.ref cA) (some d) (upd H d (.xd [("value", v)])) :=
  ⟨d, v, rfl, .inl ⟨rfl, upd_same, fun D hD => k _ _ ((Ext.refl.new hd).new hD) ⟨D, rfl, lstS⟩⟩⟩
theorem td_short (k : ∀ r H', Ext [] H H' → TdIs K H' r (.inl ("Short", v)) → Q r H') {d : Addr} (hd : H d = none) : tdE cA cS Q (.ref cS) (some d) (upd H d (.xd [("amount", v)])) :=
  ⟨d, v, rfl, .inr ⟨rfl, upd_same, fun D hD => k _ _ ((Ext.refl.new hd).new hD) ⟨D, rfl, lstS⟩⟩⟩
noncomputable def oM (v1 : V) (p q : Rat) : Sum (Str × V) Rat := if p < q then .inl ("Short", v1) else .inr (p - q)
noncomputable def oO (v2 : V) (p q : Rat) : Sum (Str × V) Rat := if 0 < q then .inr (p / q) else .inl ("BadAmount", v2)
theorem k_tM (a1 : Am K H v1 p) (a2 : Am K H v2 q) (z1 : Sz 4000 p) (z2 : Sz 4000 q) (k : ∀ r H', Ext [] H H' → TdIs K H' r (oM v1 p q) → Q r H') : spMinusX cS K [v1, v2] H (tdQ Q) (tdE cA cS Q) := by
  refine ⟨v1, v2, p, q, rfl, a1, a2, z1, z2, fun h d hd => ?_, fun h v H' e a => ?_⟩
  · unfold oM at k
    rw [if_pos h] at k
    exact td_short k hd
  · unfold oM at k
    rw [if_neg (Rat.not_lt.mpr h)] at k
    exact td_ok k e a
theorem k_tO (a1 : Am K H v1 p) (a2 : Am K H v2 q) (q0 : 0 ≤ q) (z1 : Sz 4000 p) (z2 : Sz 4000 q) (k : ∀ r H', Ext [] H H' → TdIs K H' r (oO v2 p q) → Q r H') : spOverX cA K [v1, v2] H (tdQ Q) (tdE cA cS Q) := by
  refine ⟨v1, v2, p, q, rfl, a1, a2, q0, z1, z2, fun h d hd => ?_, fun h v H' e a => ?_⟩
  · unfold oO at k
    rw [if_neg (by rw [h]; decide)] at k
    exact td_bad k hd
  · unfold oO at k
    rw [if_pos h] at k
    exact td_ok k e a
/-- a number of any data, as an amount or as what is wrong with it -/
noncomputable def oA (dx dy : PyData) (vx vy : V) : Sum (Str × V) Rat := if nnD dx = false then .inl ("BadAmount", vx) else if posD dy = false then .inl ("BadAmount", vy) else match dx, dy with
  | .int a, .int b => .inr (mkRat a b.toNat)
  | _, _ => .inr 0
theorem k_tA {dx dy : PyData} (h1 : Dp K H v1 dx) (h2 : Dp K H v2 dy) (l2 : ∀ b : Nat, dy = .int (b : Int) → b < 2 ^ 4000) (k : ∀ r H', Ext [] H H' → TdIs K H' r (oA dx dy v1 v2) → Q r H') : spAmountX cA K [v1, v2] H (tdQ Q) (tdE cA cS Q) := by
  refine ⟨v1, v2, dx, dy, rfl, h1, h2, fun h d hd => ?_, fun h h' d hd => ?_, fun a b e1 e2 hb => ⟨l2 b e2, fun v H' e am => ?_⟩⟩
  · unfold oA at k
    rw [if_pos h] at k
    exact td_bad k hd
  · unfold oA at k
    rw [if_neg (by rw [h]; decide), if_pos h'] at k
    exact td_bad k hd
  · subst e1 e2
    have k1 : nnD (.int (a : Int)) = true := by simp [nnD]
    have k2 : posD (.int (b : Int)) = true := by simp [posD]; omega
    unfold oA at k
    rw [if_neg (by rw [k1]; decide), if_neg (by rw [k2]; decide)] at k
    exact td_ok k e am
theorem k_am2 {a b : Nat} (hb : 0 < b) (lb : b < 2 ^ 4000) (k : ∀ v H', Ext [] H H' → Am K H' v (mkRat (a : Int) b) → Q v H') : sp0 (spAmountX cA K) [.int (a : Int), .int (b : Int)] H Q E0 := by
  refine ⟨_, _, _, _, rfl, .int _, .int _, fun h => ?_, fun _ h => ?_, fun a' b' e1 e2 _ => ?_⟩
  · have k1 : nnD (.int (a : Int)) = true := by simp [nnD]
    rw [k1] at h
    cases h
  · have k1 : posD (.int (b : Int)) = true := by simp [posD]; omega
    rw [k1] at h
    cases h
  · obtain rfl : a = a' := by have := PyData.int.inj e1; omega
    obtain rfl : b = b' := by have := PyData.int.inj e2; omega
    exact ⟨lb, k⟩
end
section
variable {P : Program} {w : World} {K : PySem.W.Frag} {mg : Str → Option Value} {base : Heap} {f : Addr} {fd : FuncData}
theorem mk_sub {p q : Rat} : mkRat (p.num * q.den - q.num * p.den) (p.den * q.den) = p - q := by
  rw [Rat.sub_def, Rat.normalize_eq_mkRat]
abbrev s_law_sub : Stmt := top 37
theorem c_law_sub : FnScope ["_law_p", "_law_q"] ["_law_p", "_law_q"] (defScope s_law_sub) := ⟨rfl, rfl, rfl, by decide +kernel, rfl, by decide +kernel, by decide +kernel⟩
theorem f_law_sub (F : FunD K "_law_sub" "_law_sub" (defArgs s_law_sub) (defBody s_law_sub) (defScope s_law_sub) [] [] f fd) (hm : mg "_law_sub" = some (.ref f)) (F_law_pair : Fn P w K mg base 1 "_law_pair" (spPair K)) : Fn P w K mg base 2 "_law_sub" (sp2 (fun p q => q ≤ p) (· - ·) K) := by
  refine fn_def F hm c_law_sub (fun vs H Q E h => ?_) (fun _ _ _ _ _ _ us hl => match us, hl with | [_, _], _ => rfl) (fun cdv A outer s H vs Q E hr h => ?_)
  · obtain ⟨v1, v2, p, q, rfl, _⟩ := h
    rfl
  · obtain ⟨v1, v2, p, q, rfl, ⟨a1, rfl, h1⟩, ⟨a2, rfl, h2⟩, z1, z2, p0, q0, hle, k⟩ := h
    have nd := c_law_sub.nd
    refine ⟨_, (pss_one (ps_ret (pe_fn F_law_pair (hr.mono (by decide)) (pa_cons (pe_op op_sub (pe_op op_mulW (pe_ix ix_tup (pv 0) pe_int (fun _ _ => rfl)) (pe_ix ix_tup (pv 1) pe_int (fun _ _ => rfl))) (pe_op op_mulW (pe_ix ix_tup (pv 1) pe_int (fun _ _ => rfl)) (pe_ix ix_tup (pv 0) pe_int (fun _ _ => rfl)))) (pa_cons (pe_op op_mulW (pe_ix ix_tup (pv 0) pe_int (fun _ _ => rfl)) (pe_ix ix_tup (pv 1) pe_int (fun _ _ => rfl))) pa_nil))))), ?_⟩
    show (_ : TS) _ [some _, some _] _
    try dsimp only [cxOf, Cx.nox]
    have m1 : CMulW p.num (q.den : Int) := cmul z1.1 (szd z2) (by decide) (by decide) (by decide)
    have m2 : CMulW q.num (p.den : Int) := cmul z2.1 (szd z1) (by decide) (by decide) (by decide)
    have m3 : CMulW (p.den : Int) (q.den : Int) := cmul (szd z1) (szd z2) (by decide) (by decide) (by decide)
    walk_at "go"
    have e1 := mulz z1.1 (szd z2)
    have e3 : p.den * q.den < 2 ^ (4000 + 4000) := by rw [Nat.pow_add]; exact Nat.mul_lt_mul'' z1.2 z2.2
    have e4 : (2 : Nat) ^ (4000 + 4000) ≤ 2 ^ 8900 := by decide +kernel
    have n2 : 0 ≤ q.num * (p.den : Int) := Int.mul_nonneg (num_nn q0) (by omega)
    have n3 : q.num * (p.den : Int) ≤ p.num * (q.den : Int) := (Rat.le_iff q p).mp hle
    refine ⟨(p.num * (q.den : Int) - q.num * (p.den : Int)).toNat, p.den * q.den, ?_, Nat.mul_pos p.den_pos q.den_pos, ?_, by omega, fun v H' e a => k v H' e ?_⟩
    · rw [Int.toNat_of_nonneg (by omega), Int.natCast_mul]
    · generalize (2 : Nat) ^ (4000 + 4000) = B at *
      generalize (2 : Nat) ^ 8900 = C at *
      omega
    · rw [Int.toNat_of_nonneg (by omega), mk_sub] at a
      exact a

end
end Yk

set_option maxHeartbeats 8000000
namespace Yk
open PySem PySem.Spec PyProof.Rows L2 TL LamX

/-! Two amounts. -/
local macro_rules | `(tactic| walk_at "st") => `(tactic| with_reducible refine' r_tG ?_)
section
variable {K : PySem.W.Frag} {H : Hp} {Q : VK} {E : XK} {v1 v2 : V} {p q : Rat}
theorem num0 (q0 : 0 ≤ q) : (0 < q.num) ↔ 0 < q := num_pos_iff q0
theorem cmp_neg (p q : Rat) : cmpQ q p = 0 - cmpQ p q := by
  unfold cmpQ
  by_cases h : p < q
  · have h2 : ¬ q < p := fun z => by grind
    simp [h, h2]
  · by_cases h2 : q < p <;> simp [h, h2]
theorem cmp_self (p : Rat) : cmpQ p p = 0 := by unfold cmpQ; rw [if_neg Rat.lt_irrefl, if_neg Rat.lt_irrefl]
theorem td_M (h : p < q) {D : Addr} (hl : SqL K H D [.str "Short", v1]) : TdIs K H (.ref D) (oM v1 p q) := by
  unfold oM
  rw [if_pos h]
  exact ⟨D, rfl, hl⟩
theorem td_M' (h : ¬ p < q) {D : Addr} {v : V} (hl : SqL K H D [.str "told", v]) (a : Am K H v (p - q)) : TdIs K H (.ref D) (oM v1 p q) := by
  unfold oM
  rw [if_neg h]
  exact ⟨D, rfl, v, hl, a⟩
theorem td_O (h : ¬ 0 < q) {D : Addr} (hl : SqL K H D [.str "BadAmount", v2]) : TdIs K H (.ref D) (oO v2 p q) := by
  unfold oO
  rw [if_neg h]
  exact ⟨D, rfl, hl⟩
theorem td_O' (h : 0 < q) {D : Addr} {v : V} (hl : SqL K H D [.str "told", v]) (a : Am K H v (p / q)) : TdIs K H (.ref D) (oO v2 p q) := by
  unfold oO
  rw [if_pos h]
  exact ⟨D, rfl, v, hl, a⟩
theorem oM_v (a : Am K H v1 p) (n : Nat) : ∀ x v, oM v1 p q = .inl (x, v) → Eqd K H (n + 1) v v := fun x v e => by
  unfold oM at e
  split at e
  · cases e
    exact a.eqd n a
  · cases e
theorem oO_v {q' : Rat} (a : Am K H v2 q') (n : Nat) : ∀ x v, oO v2 p q = .inl (x, v) → Eqd K H (n + 1) v v := fun x v e => by
  unfold oO at e
  split at e
  · cases e
  · cases e
    exact a.eqd n a
theorem k_min {F : Rat → List Rat → Rat} (a1 : Am K H v1 p) (a2 : Am K H v2 q) (z1 : Sz 4000 p) (z2 : Sz 4000 q) (k : ∀ v H', Ext [] H H' → Am K H' v (F p [q]) → Q v H') : spMin F K [v1, v2] H Q E :=
  ⟨p, [q], Ams.cons a1 (Ams.cons a2 Ams.nil), fun x hx => by
    rcases List.mem_cons.mp hx with rfl | hx
    · exact z1
    · rw [List.mem_singleton.mp hx]; exact z2, by simp, k⟩
end
theorem minQ2 (p q : Rat) : minQ p [q] = lmin p q := rfl
theorem minQ2' (p q : Rat) : minQ q [p] = lmin p q := by
  show (if p < q then p else q) = if q < p then q else p
  grind
theorem maxQ2 (p q : Rat) : maxQ p [q] = lmax p q := by
  show (if p < q then q else p) = if q < p then p else q
  grind
theorem maxQ2' (p q : Rat) : maxQ q [p] = lmax p q := by
  show (if q < p then p else q) = if q < p then p else q
  rfl
section
variable {P : Program} {w : World} {K : PySem.W.Frag} {mg : Str → Option Value} {base : Heap} {f : Addr} {fd : FuncData}
def spTwo (P1 P2 : Addr) (K : PySem.W.Frag) : Sp := fun vs H Q _ => ∃ v1 v2 p q, vs = [v1, v2] ∧ Am K H v1 p ∧ Am K H v2 q ∧ 0 ≤ p ∧ 0 ≤ q ∧ Sz 114 p ∧ Sz 114 q ∧ Tabs (CT2 P1 P2) H ∧ ∀ H', ExtN H H' → Tabs (CT2 P1 P2) H' → Q (.bl true) H'
abbrev s_law_two_so : Stmt := top 55
theorem c_law_two_so : FnScope ["_law_p", "_law_q", "_law_order", "_law_gap", "_law_part"] ["_law_p", "_law_q"] (defScope s_law_two_so) := ⟨rfl, rfl, rfl, by decide +kernel, rfl, by decide +kernel, by decide +kernel⟩
theorem f_law_two_so (F : FunD K "_law_two_so" "_law_two_so" (defArgs s_law_two_so) (defBody s_law_two_so) (defScope s_law_two_so) [] [] f fd) (hm : mg "_law_two_so" = some (.ref f)) {c2 P1 P2 cA cS : Addr} (hC2 : fd.code = .ref c2) (TBc2 : TabB base mg c2 P2) (hP : P1 ≠ P2) (TZ : ∃ z, mg "ZERO" = some (.ref z) ∧ ∀ H, SqT K H z [.int 0, .int 1]) (TO : ∃ z, mg "ONE" = some (.ref z) ∧ ∀ H, SqT K H z [.int 1, .int 1]) (L_law_told : LamF P w K mg base "_law_told" "_law_deed" (TTold cA cS)) (Lminus_2_ : FnG P w K mg base (L2.CX P w) 3 "minus" 2 [] (fun vs _ => vs) (spMinusX cS K)) (Lminus_0_second_first : FnG P w K mg base (L2.CX P w) 3 "minus" 0 ["second", "first"] sw2 (spMinusX cS K)) (Lover_2_ : FnG P w K mg base (L2.CX P w) 3 "over" 2 [] (fun vs _ => vs) (spOverX cA K)) (Lover_0_second_first : FnG P w K mg base (L2.CX P w) 3 "over" 0 ["second", "first"] sw2 (spOverX cA K)) (F_law_more : Fn P w K mg base 1 "_law_more" (spMore K)) (F_law_sub : Fn P w K mg base 2 "_law_sub" (sp2 (fun p q => q ≤ p) (· - ·) K)) (F_law_div : Fn P w K mg base 2 "_law_div" (sp2 (fun _ q => 0 < q) (· / ·) K)) (F_law_mul : Fn P w K mg base 2 "_law_mul" (sp2 (fun _ _ => True) (· * ·) K)) (F_law_like : Fn P w K mg base 5 "_law_like" (spLike K 5)) (Ftimes : Fn P w K mg base 2 "times" (spTimes K)) (Stimes : FnS P w K mg base 2 "times" ["second", "first"] (spTimes K)) (Fcompare : Fn P w K mg base 1 "compare" (spCompare K)) (Scompare : FnS P w K mg base 1 "compare" ["second", "first"] (spCompare K)) (Fsmallest : Fn P w K mg base 2 "smallest" (spMin minQ K)) (Flargest : Fn P w K mg base 2 "largest" (spMin maxQ K)) (F_law_min : Fn P w K mg base 2 "_law_min" (sp2 (fun _ _ => True) lmin K)) (F_law_max : Fn P w K mg base 2 "_law_max" (sp2 (fun _ _ => True) lmax K)) : Fn P w K mg base 6 "_law_two_so" (spTwo P1 P2 K) := by
  refine fn_defC F hm hC2 c_law_two_so (fun vs H Q E h => ?_) (fun _ _ _ _ _ _ us hl => match us, hl with | [_, _], _ => rfl) (fun A outer s H vs Q E hr h => ?_)
  · obtain ⟨v1, v2, p, q, rfl, _⟩ := h
    rfl
  · obtain ⟨v1, v2, p, q, rfl, h1, h2, p0, q0, z1, z2, hT, k⟩ := h
    have nd := c_law_two_so.nd
    obtain ⟨z, mz, TZ⟩ := TZ; obtain ⟨oo, moo, TO⟩ := TO
    refine ⟨_, (pss_mid (ps_set (i := 2) nd rfl (by first | exact Or.inl rfl | exact Or.inr rfl) (pe_ifExp (pt_val (pe_fn F_law_more (hr.mono (by decide)) (pa_cons (pv 0) (pa_cons (pv 1) pa_nil)))) pe_int (pe_ifExp (pt_val (pe_fn F_law_more (hr.mono (by decide)) (pa_cons (pv 1) (pa_cons (pv 0) pa_nil)))) (pe_un un_neg pe_int) pe_int)))
      (pss_mid (ps_set (i := 3) nd rfl (by first | exact Or.inl rfl | exact Or.inr rfl) (pe_ifExp (pt_cmpR op_lt (pv 2) pe_int (nomark _)) (pe_lst (pa_cons pe_str (pa_cons (pv 0) pa_nil))) (pe_lst (pa_cons pe_str (pa_cons (pe_fn F_law_sub (hr.mono (by decide)) (pa_cons (pv 0) (pa_cons (pv 1) pa_nil))) pa_nil)))))
      (pss_mid (ps_set (i := 4) nd rfl (by first | exact Or.inl rfl | exact Or.inr rfl) (pe_ifExp (pt_cmpR op_gt (pe_ix ix_tup (pv 1) pe_int (fun _ _ => rfl)) pe_int (nomark _)) (pe_lst (pa_cons pe_str (pa_cons (pe_fn F_law_div (hr.mono (by decide)) (pa_cons (pv 0) (pa_cons (pv 1) pa_nil))) pa_nil))) (pe_lst (pa_cons pe_str (pa_cons (pv 1) pa_nil)))))
      (pss_mid (ps_if (pt_not (pt_val (pe_fn F_law_like (hr.mono (by decide)) (pa_cons (pe_lst (pa_cons (pe_lamT L_law_told (k := 3) (T := CT2 P1 P2) TBc2 rfl ct2_m2 (ct2_2 hP) (hr.mono (by decide)) (lamS_by (sc := defScope s_law_two_so) (by decide +kernel)) rfl (fun _ _ _ _ _ => rfl) (fun A outer s H E f c hr => (pe_g Lminus_2_ (hr.mono (by decide)) pass_lam (pa_cons (pv 0) (pa_cons (pv 1) pa_nil))))) (pa_cons (pe_lamT L_law_told (k := 3) (T := CT2 P1 P2) TBc2 rfl ct2_m2 (ct2_2 hP) (hr.mono (by decide)) (lamS_by (sc := defScope s_law_two_so) (by decide +kernel)) rfl (fun _ _ _ _ _ => rfl) (fun A outer s H E f c hr => (pe_gK Lminus_0_second_first (hr.mono (by decide)) pass_lam (pk_cons (pv 1) (pk_cons (pv 0) pk_nil))))) pa_nil))) (pa_cons (pe_lst (pa_cons (pv 3) (pa_cons (pv 3) pa_nil))) pa_nil)))))
        (pss_one (ps_ret pe_bl))
        pss_nil)
      (pss_mid (ps_if (pt_not (pt_val (pe_fn F_law_like (hr.mono (by decide)) (pa_cons (pe_lst (pa_cons (pe_lamT L_law_told (k := 3) (T := CT2 P1 P2) TBc2 rfl ct2_m2 (ct2_2 hP) (hr.mono (by decide)) (lamS_by (sc := defScope s_law_two_so) (by decide +kernel)) rfl (fun _ _ _ _ _ => rfl) (fun A outer s H E f c hr => (pe_g Lover_2_ (hr.mono (by decide)) pass_lam (pa_cons (pv 0) (pa_cons (pv 1) pa_nil))))) (pa_cons (pe_lamT L_law_told (k := 3) (T := CT2 P1 P2) TBc2 rfl ct2_m2 (ct2_2 hP) (hr.mono (by decide)) (lamS_by (sc := defScope s_law_two_so) (by decide +kernel)) rfl (fun _ _ _ _ _ => rfl) (fun A outer s H E f c hr => (pe_gK Lover_0_second_first (hr.mono (by decide)) pass_lam (pk_cons (pv 1) (pk_cons (pv 0) pk_nil))))) pa_nil))) (pa_cons (pe_lst (pa_cons (pv 4) (pa_cons (pv 4) pa_nil))) pa_nil)))))
        (pss_one (ps_ret pe_bl))
        pss_nil)
      (pss_mid (ps_if (pt_not (pt_val (pe_fn F_law_like (hr.mono (by decide)) (pa_cons (pe_lst (pa_cons (pe_fn Ftimes (hr.mono (by decide)) (pa_cons (pv 0) (pa_cons (pv 1) pa_nil))) (pa_cons (pe_fnS Stimes (hr.mono (by decide)) (pk_cons (pv 0) (pk_cons (pv 1) pk_nil))) (pa_cons (pe_fn Ftimes (hr.mono (by decide)) (pa_cons (pv 0) (pa_cons (pe_glob (v := .ref z) rfl mz rfl) pa_nil))) (pa_cons (pe_fn Ftimes (hr.mono (by decide)) (pa_cons (pv 0) (pa_cons (pe_glob (v := .ref oo) rfl moo rfl) pa_nil))) pa_nil))))) (pa_cons (pe_lst (pa_cons (pe_fn F_law_mul (hr.mono (by decide)) (pa_cons (pv 0) (pa_cons (pv 1) pa_nil))) (pa_cons (pe_fn F_law_mul (hr.mono (by decide)) (pa_cons (pv 0) (pa_cons (pv 1) pa_nil))) (pa_cons (pe_tup (pa_cons pe_int (pa_cons pe_int pa_nil))) (pa_cons (pv 0) pa_nil))))) pa_nil)))))
        (pss_one (ps_ret pe_bl))
        pss_nil)
      (pss_mid (ps_if (pt_not (pt_val (pe_fn F_law_like (hr.mono (by decide)) (pa_cons (pe_lst (pa_cons (pe_fn Fcompare (hr.mono (by decide)) (pa_cons (pv 0) (pa_cons (pv 1) pa_nil))) (pa_cons (pe_fn Fcompare (hr.mono (by decide)) (pa_cons (pv 1) (pa_cons (pv 0) pa_nil))) (pa_cons (pe_fnS Scompare (hr.mono (by decide)) (pk_cons (pv 1) (pk_cons (pv 0) pk_nil))) (pa_cons (pe_fn Fcompare (hr.mono (by decide)) (pa_cons (pv 0) (pa_cons (pv 0) pa_nil))) pa_nil))))) (pa_cons (pe_lst (pa_cons (pv 2) (pa_cons (pe_op op_sub pe_int (pv 2)) (pa_cons (pv 2) (pa_cons pe_int pa_nil))))) pa_nil)))))
        (pss_one (ps_ret pe_bl))
        pss_nil)
      (pss_one (ps_ret (pe_fn F_law_like (hr.mono (by decide)) (pa_cons (pe_lst (pa_cons (pe_fn Fsmallest (hr.mono (by decide)) (pa_cons (pv 0) (pa_cons (pv 1) pa_nil))) (pa_cons (pe_fn Fsmallest (hr.mono (by decide)) (pa_cons (pv 1) (pa_cons (pv 0) pa_nil))) (pa_cons (pe_fn Flargest (hr.mono (by decide)) (pa_cons (pv 0) (pa_cons (pv 1) pa_nil))) (pa_cons (pe_fn Flargest (hr.mono (by decide)) (pa_cons (pv 1) (pa_cons (pv 0) pa_nil))) pa_nil))))) (pa_cons (pe_lst (pa_cons (pe_fn F_law_min (hr.mono (by decide)) (pa_cons (pv 0) (pa_cons (pv 1) pa_nil))) (pa_cons (pe_fn F_law_min (hr.mono (by decide)) (pa_cons (pv 0) (pa_cons (pv 1) pa_nil))) (pa_cons (pe_fn F_law_max (hr.mono (by decide)) (pa_cons (pv 0) (pa_cons (pv 1) pa_nil))) (pa_cons (pe_fn F_law_max (hr.mono (by decide)) (pa_cons (pv 0) (pa_cons (pv 1) pa_nil))) pa_nil))))) pa_nil)))))))))))), ?_⟩
    show (_ : TS) _ [some _, some _, none, none, none] _
    try dsimp only [cxOf, Cx.nox]
    have w1 : Sz 4000 p := z1.mono (by decide)
    have w2 : Sz 4000 q := z2.mono (by decide)
    refine r_mid (fun σ' H' => σ' = [some v1, some v2, some (.int (cmpQ p q)), none, none] ∧ H' = H) ?_ ?_
    · walk_at "go"
      refine ⟨_, _, p, q, rfl, h1, h2, w1, w2, ?_⟩
      refine r_bl ?_
      unfold cmpQ
      refine r_dec (fun hl => ?_) (fun hl => ?_)
      · walk_at "go"
        exact ⟨by rw [if_neg (by grind), if_pos hl]; rfl, rfl⟩
      · walk_at "go"
        refine ⟨_, _, q, p, rfl, h2, h1, w2, w1, ?_⟩
        refine r_bl ?_
        refine r_dec (fun hl2 => ?_) (fun hl2 => ?_)
        · walk_at "go"
          exact ⟨by rw [if_pos hl2]; rfl, rfl⟩
        · walk_at "go"
          exact ⟨by rw [if_neg hl2, if_neg hl]; rfl, rfl⟩
    · rintro σ' H0 ⟨rfl, rfl⟩
      refine r_mid (fun σ' H' => ∃ g, σ' = [some v1, some v2, some (.int (cmpQ p q)), some g, none] ∧ Ext [] H0 H' ∧ TdIs K H' g (oM v1 p q)) ?_ ?_
      · walk_at "go"
        refine r_dec (fun hl => ?_) (fun hl => ?_)
        · walk_at "go"
          exact ⟨_, rfl, by walk_at "ext", td_M ((cmp_lt _ _).mp hl) lstS⟩
        · have hn : ¬ p < q := fun z => hl ((cmp_lt p q).mpr z)
          walk_at "go"
          refine k_two h1 h2 w1 w2 p0 q0 (Rat.not_lt.mp hn) fun u1 H1 e1 b1 => ?_
          walk_at "go"
          exact ⟨_, rfl, by walk_at "ext", td_M' hn lstS (by walk_at "am")⟩
      · rintro σ' H1 ⟨g, rfl, e1, tg⟩
        refine r_mid (fun σ' H' => ∃ pt, σ' = [some v1, some v2, some (.int (cmpQ p q)), some g, some pt] ∧ Ext [] H1 H' ∧ TdIs K H' pt (oO v2 p q)) ?_ ?_
        · obtain ⟨a2, rfl, t2⟩ := id h2
          walk_at "go"
          refine r_dec (fun hl => ?_) (fun hl => ?_)
          · have hq := (num0 q0).mp hl
            walk_at "go"
            refine k_two (by walk_at "am") (by walk_at "am") w1 w2 p0 q0 hq fun u1 H2 e2 b2 => ?_
            walk_at "go"
            exact ⟨_, rfl, by walk_at "ext", td_O' hq lstS (by walk_at "am")⟩
          · walk_at "go"
            exact ⟨_, rfl, by walk_at "ext", td_O (fun z => hl ((num0 q0).mpr z)) lstS⟩
        · rintro σ' H2 ⟨pt, rfl, e2, tp⟩
          have e02 := e1.trans e2
          have a1 := h1.x0 e02
          have a2 := h2.x0 e02
          have T2 := Tabs.x0 hT e02
          have tg2 := tg.x0 e2
          refine r_mid (fun σ' H' => σ' = [some v1, some v2, some (.int (cmpQ p q)), some g, some pt] ∧ ExtN H2 H' ∧ Tabs (CT2 P1 P2) H') ?_ ?_
          · walk_at "go"
            refine k_told T2 fun H3 n3 T3 => ?_
            walk_at "go"
            refine ⟨rfl, rfl, k_tM (a1.e n3) (a2.e n3) w1 w2 fun r1 H4 e4 t4 => ?_⟩
            walk_at "go"
            refine k_told (Tabs.x0 T3 e4) fun H5 n5 T5 => ?_
            have n25 := n3.trans ((extN_of e4).trans n5)
            walk_at "go"
            refine ⟨rfl, rfl, k_tM (a1.e n25) (a2.e n25) w1 w2 fun r2 H6 e6 t6 => ?_⟩
            have n26 := n25.trans (extN_of e6)
            have t46 := (t4.e n5).x0 e6
            have tg6 := tg2.e n26
            have a6 := a1.e n26
            walk_at "go"
            refine k_like (list2_eqd (n := 3) (lstN lstS (by assumption)) lstS (td_eqd (TdIs.x0 (by walk_at "ext") t46) (TdIs.x0 (by walk_at "ext") tg6) 1 (oM_v (Am.x0 (by walk_at "ext") a6) 1)) (td_eqd (TdIs.x0 (by walk_at "ext") t6) (TdIs.x0 (by walk_at "ext") tg6) 1 (oM_v (Am.x0 (by walk_at "ext") a6) 1))) fun H8 e8 => ?_
            walk_at "run"
            have e68 : Ext [] H6 H8 := by walk_at "ext"
            exact ⟨rfl, n26.trans (extN_of e68), Tabs.x0 (Tabs.x0 T5 e6) e68⟩
          · rintro σ' HA ⟨rfl, nA, TA⟩
            have b1 := a1.e nA
            have b2 := a2.e nA
            have tpA := tp.e nA
            have n0A := (extN_of e02).trans nA
            clear tg tg2 T2 tp hT a1 a2 h1 h2 e1 e2 e02 nA
            refine r_mid (fun σ' H' => σ' = [some v1, some v2, some (.int (cmpQ p q)), some g, some pt] ∧ ExtN HA H' ∧ Tabs (CT2 P1 P2) H') ?_ ?_
            · walk_at "go"
              refine k_told TA fun H3 n3 T3 => ?_
              walk_at "go"
              refine ⟨rfl, rfl, k_tO (b1.e n3) (b2.e n3) q0 w1 w2 fun r1 H4 e4 t4 => ?_⟩
              walk_at "go"
              refine k_told (Tabs.x0 T3 e4) fun H5 n5 T5 => ?_
              have n25 := n3.trans ((extN_of e4).trans n5)
              walk_at "go"
              refine ⟨rfl, rfl, k_tO (b1.e n25) (b2.e n25) q0 w1 w2 fun r2 H6 e6 t6 => ?_⟩
              have n26 := n25.trans (extN_of e6)
              have t46 := (t4.e n5).x0 e6
              have tg6 := tpA.e n26
              have a6 := b2.e n26
              walk_at "go"
              refine k_like (list2_eqd (n := 3) (lstN lstS (by assumption)) lstS (td_eqd (TdIs.x0 (by walk_at "ext") t46) (TdIs.x0 (by walk_at "ext") tg6) 1 (oO_v (Am.x0 (by walk_at "ext") a6) 1)) (td_eqd (TdIs.x0 (by walk_at "ext") t6) (TdIs.x0 (by walk_at "ext") tg6) 1 (oO_v (Am.x0 (by walk_at "ext") a6) 1))) fun H8 e8 => ?_
              walk_at "run"
              have e68 : Ext [] H6 H8 := by walk_at "ext"
              exact ⟨rfl, n26.trans (extN_of e68), Tabs.x0 (Tabs.x0 T5 e6) e68⟩
            · rintro σ' HB ⟨rfl, nB, TB⟩
              have h1 := b1.e nB
              have h2 := b2.e nB
              have n0B := n0A.trans nB
              clear b1 b2 tpA nB TA n0A
              refine r_mid (fun σ' H' => σ' = [some v1, some v2, some (.int (cmpQ p q)), some g, some pt] ∧ Ext [] HB H') ?_ ?_
              · walk_at "go"
                refine k_times h1 h2 w1 w2 fun u1 H1 e1 b1 => ?_
                walk_at "go"
                refine k_times (by walk_at "am") (by walk_at "am") w2 w1 fun u2 H2 e2 b2 => ?_
                rw [Rat.mul_comm] at b2
                walk_at "go"
                refine k_times (q := 0) (by walk_at "am") ⟨_, rfl, TZ _⟩ w1 ⟨by decide +kernel, by decide +kernel⟩ fun u3 H3 e3 b3 => ?_
                rw [Rat.mul_zero] at b3
                walk_at "go"
                refine k_times (q := 1) (by walk_at "am") ⟨_, rfl, TO _⟩ w1 ⟨by decide +kernel, by decide +kernel⟩ fun u4 H4 e4 b4 => ?_
                rw [Rat.mul_one] at b4
                walk_at "go"
                refine k_two (by walk_at "am") (by walk_at "am") w1 w2 p0 q0 trivial fun u5 H5 e5 b5 => ?_
                walk_at "go"
                refine k_two (by walk_at "am") (by walk_at "am") w1 w2 p0 q0 trivial fun u6 H6 e6 b6 => ?_
                walk_at "go"
                refine k_like (ams_eqd (xs := [u1, u2, u3, u4]) (qs := [p * q, p * q, 0, p]) (by walk_at "sq") (by walk_at "sq") (Ams.cons (by walk_at "am") (Ams.cons (by walk_at "am") (Ams.cons (by walk_at "am") (Ams.cons (by walk_at "am") Ams.nil)))) (Ams.cons (by walk_at "am") (Ams.cons (by walk_at "am") (Ams.cons ⟨_, rfl, by walk_at "sq"⟩ (Ams.cons (by walk_at "am") Ams.nil)))) (by simp) 2) fun H8 e8 => ?_
                walk_at "run"
                exact ⟨rfl, by walk_at "ext"⟩
              · rintro σ' HC ⟨rfl, eC⟩
                refine r_mid (fun σ' H' => σ' = [some v1, some v2, some (.int (cmpQ p q)), some g, some pt] ∧ Ext [] HB H') ?_ ?_
                · walk_at "go"
                  refine k_cmp (by walk_at "am") (by walk_at "am") w1 w2 ?_
                  walk_at "go"
                  refine k_cmp (by walk_at "am") (by walk_at "am") w2 w1 ?_
                  walk_at "go"
                  refine k_cmp (by walk_at "am") (by walk_at "am") w1 w2 ?_
                  walk_at "go"
                  refine k_cmp (by walk_at "am") (by walk_at "am") w1 w1 ?_
                  rw [cmp_neg p q, cmp_self]
                  walk_at "go"
                  refine k_like (ints_eqd (ns := [cmpQ p q, 0 - cmpQ p q, cmpQ p q, 0]) (by walk_at "sq") (by walk_at "sq") (by simp) 3) fun H8 e8 => ?_
                  walk_at "run"
                  exact ⟨rfl, by walk_at "ext"⟩
                · rintro σ' HD ⟨rfl, eD⟩
                  walk_at "go"
                  refine k_min (by walk_at "am") (by walk_at "am") w1 w2 fun u1 H1 e1 b1 => ?_
                  walk_at "go"
                  refine k_min (by walk_at "am") (by walk_at "am") w2 w1 fun u2 H2 e2 b2 => ?_
                  walk_at "go"
                  refine k_min (by walk_at "am") (by walk_at "am") w1 w2 fun u3 H3 e3 b3 => ?_
                  walk_at "go"
                  refine k_min (by walk_at "am") (by walk_at "am") w2 w1 fun u4 H4 e4 b4 => ?_
                  rw [minQ2] at b1
                  rw [minQ2'] at b2
                  rw [maxQ2] at b3
                  rw [maxQ2'] at b4
                  walk_at "go"
                  refine k_two (by walk_at "am") (by walk_at "am") w1 w2 p0 q0 trivial fun u5 H5 e5 b5 => ?_
                  walk_at "go"
                  refine k_two (by walk_at "am") (by walk_at "am") w1 w2 p0 q0 trivial fun u6 H6 e6 b6 => ?_
                  walk_at "go"
                  refine k_two (by walk_at "am") (by walk_at "am") w1 w2 p0 q0 trivial fun u7 H7 e7 b7 => ?_
                  walk_at "go"
                  refine k_two (by walk_at "am") (by walk_at "am") w1 w2 p0 q0 trivial fun u8 H8 e8 b8 => ?_
                  walk_at "go"
                  refine k_like (ams_eqd (xs := [u1, u2, u3, u4]) (ys := [u5, u6, u7, u8]) (qs := [lmin p q, lmin p q, lmax p q, lmax p q]) (by walk_at "sq") (by walk_at "sq") (Ams.cons (by walk_at "am") (Ams.cons (by walk_at "am") (Ams.cons (by walk_at "am") (Ams.cons (by walk_at "am") Ams.nil)))) (Ams.cons (by walk_at "am") (Ams.cons (by walk_at "am") (Ams.cons (by walk_at "am") (Ams.cons (by walk_at "am") Ams.nil)))) (by simp) 2) fun H9 e9 => ?_
                  have eB9 : Ext [] HB H9 := by walk_at "ext"
                  exact k H9 (n0B.trans (extN_of eB9)) (Tabs.x0 TB eB9)
end
end Yk

set_option maxHeartbeats 8000000
namespace Yk
open PySem PySem.Spec PyProof.Rows L2 TL LamX

/-! More amounts. -/
theorem lmin_c (p q : Rat) : lmin p q = lmin q p := by unfold lmin; grind
theorem lmin_a (p q r : Rat) : lmin (lmin p q) r = lmin p (lmin q r) := by unfold lmin; grind
theorem lmax_c (p q : Rat) : lmax p q = lmax q p := by unfold lmax; grind
theorem lmax_a (p q r : Rat) : lmax (lmax p q) r = lmax p (lmax q r) := by unfold lmax; grind
theorem min_1 (p : Rat) : minQ p [] = p := rfl
theorem max_1 (p : Rat) : maxQ p [] = p := rfl
theorem min_4 (p q r s : Rat) : minQ p [q, r, s] = lmin (lmin p q) (lmin r s) := by
  show lmin (lmin (lmin p q) r) s = _
  rw [lmin_a (lmin p q) r s]
theorem min_4' (p q r s : Rat) : minQ r [s, q, p] = lmin (lmin p q) (lmin r s) := by
  show lmin (lmin (lmin r s) q) p = _
  rw [lmin_a (lmin r s) q p, lmin_c (lmin r s), lmin_c q p]
theorem max_s (p q : Rat) : (if p < q then q else p) = lmax p q := by unfold lmax; grind
theorem max_4 (p q r s : Rat) : maxQ p [q, r, s] = lmax (lmax p q) (lmax r s) := by
  show (if (if (if p < q then q else p) < r then r else (if p < q then q else p)) < s then s else (if (if p < q then q else p) < r then r else (if p < q then q else p))) = _
  rw [max_s, max_s, max_s, lmax_a (lmax p q) r s]
theorem max_4' (p q r s : Rat) : maxQ s [r, p, q] = lmax (lmax p q) (lmax r s) := by
  rw [max_4, lmax_c (lmax s r), lmax_c s r]
theorem lmin_p {Pr : Rat → Prop} {p q : Rat} (h1 : Pr p) (h2 : Pr q) : Pr (lmin p q) := by unfold lmin; split <;> assumption
theorem lmax_p {Pr : Rat → Prop} {p q : Rat} (h1 : Pr p) (h2 : Pr q) : Pr (lmax p q) := by unfold lmax; split <;> assumption
section
variable {K : PySem.W.Frag} {H : Hp} {Q : VK} {E : XK}
theorem k_plusN {vs : List V} {qs : List Rat} (a : Ams K H vs qs) (z : ∀ q ∈ qs, Sz 114 q) (hl : qs.length ≤ 4) (k : ∀ v H', Ext [] H H' → Am K H' v (sumQ qs) → Q v H') : spPlus K vs H Q E := ⟨qs, 114, a, z, by decide, by omega, k⟩
theorem k_sum {t : Addr} {xs : List V} {qs : List Rat} (ht : SqL K H t xs) (a : Ams K H xs qs) (z : ∀ q ∈ qs, Sz 114 q) (n : ∀ q ∈ qs, 0 ≤ q) (hl : qs.length ≤ 4) (k : ∀ v H', Ext [] H H' → Am K H' v (sumQ qs) → Q v H') : spSum K [.ref t] H Q E := ⟨t, xs, qs, 114, rfl, ht, a, z, n, by decide, by omega, k⟩
theorem k_minN {F : Rat → List Rat → Rat} {vs : List V} {q0 : Rat} {qs : List Rat} (a : Ams K H vs (q0 :: qs)) (z : ∀ q ∈ q0 :: qs, Sz 114 q) (hl : qs.length ≤ 4) (k : ∀ v H', Ext [] H H' → Am K H' v (F q0 qs) → Q v H') : spMin F K vs H Q E := ⟨q0, qs, a, fun q hq => (z q hq).mono (by decide), by omega, k⟩
end
section
variable {P : Program} {w : World} {K : PySem.W.Frag} {mg : Str → Option Value} {base : Heap} {f : Addr} {fd : FuncData}
def spMoreSo (K : PySem.W.Frag) : Sp := fun vs H Q _ => ∃ v1 v2 v3 v4 p q r s, vs = [v1, v2, v3, v4] ∧ Am K H v1 p ∧ Am K H v2 q ∧ Am K H v3 r ∧ Am K H v4 s ∧ (0 ≤ p ∧ 0 ≤ q ∧ 0 ≤ r ∧ 0 ≤ s) ∧ (Sz 114 p ∧ Sz 114 q ∧ Sz 114 r ∧ Sz 114 s) ∧ ∀ H', Ext [] H H' → Q (.bl true) H'
abbrev s_law_more_so : Stmt := top 56
theorem c_law_more_so : FnScope ["_law_p", "_law_q", "_law_r", "_law_s", "_law_low", "_law_high"] ["_law_p", "_law_q", "_law_r", "_law_s"] (defScope s_law_more_so) := ⟨rfl, rfl, rfl, by decide +kernel, rfl, by decide +kernel, by decide +kernel⟩
theorem f_law_more_so (F : FunD K "_law_more_so" "_law_more_so" (defArgs s_law_more_so) (defBody s_law_more_so) (defScope s_law_more_so) [] [] f fd) (hm : mg "_law_more_so" = some (.ref f)) (F_law_like : Fn P w K mg base 5 "_law_like" (spLike K 5)) (Fplus : Fn P w K mg base 2 "plus" (spPlus K)) (F_law_sum : Fn P w K mg base 3 "_law_sum" (spSum K)) (Fsmallest : Fn P w K mg base 2 "smallest" (spMin minQ K)) (Flargest : Fn P w K mg base 2 "largest" (spMin maxQ K)) (F_law_min : Fn P w K mg base 2 "_law_min" (sp2 (fun _ _ => True) lmin K)) (F_law_max : Fn P w K mg base 2 "_law_max" (sp2 (fun _ _ => True) lmax K)) : Fn P w K mg base 6 "_law_more_so" (spMoreSo K) := by
  refine fn_def F hm c_law_more_so (fun vs H Q E h => ?_) (fun _ _ _ _ _ _ us hl => match us, hl with | [_, _, _, _], _ => rfl) (fun cdv A outer s H vs Q E hr h => ?_)
  · obtain ⟨v1, v2, v3, v4, p, q, r, s, rfl, _⟩ := h
    rfl
  · obtain ⟨v1, v2, v3, v4, p, q, r, s, rfl, h1, h2, h3, h4, ⟨p0, q0, r0, s0⟩, ⟨z1, z2, z3, z4⟩, k⟩ := h
    have nd := c_law_more_so.nd
    refine ⟨_, (pss_mid (ps_if (pt_not (pt_val (pe_fn F_law_like (hr.mono (by decide)) (pa_cons (pe_lst (pa_cons (pe_fn0 Fplus (hr.mono (by decide))) (pa_cons (pe_fn Fplus (hr.mono (by decide)) (pa_cons (pv 0) pa_nil)) (pa_cons (pe_fn Fplus (hr.mono (by decide)) (pa_cons (pv 0) (pa_cons (pv 1) pa_nil))) (pa_cons (pe_fn Fplus (hr.mono (by decide)) (pa_cons (pv 0) (pa_cons (pv 1) (pa_cons (pv 2) pa_nil)))) (pa_cons (pe_fn Fplus (hr.mono (by decide)) (pa_cons (pv 0) (pa_cons (pv 1) (pa_cons (pv 2) (pa_cons (pv 3) pa_nil))))) pa_nil)))))) (pa_cons (pe_lst (pa_cons (pe_tup (pa_cons pe_int (pa_cons pe_int pa_nil))) (pa_cons (pv 0) (pa_cons (pe_fn F_law_sum (hr.mono (by decide)) (pa_cons (pe_lst (pa_cons (pv 0) (pa_cons (pv 1) pa_nil))) pa_nil)) (pa_cons (pe_fn F_law_sum (hr.mono (by decide)) (pa_cons (pe_lst (pa_cons (pv 0) (pa_cons (pv 1) (pa_cons (pv 2) pa_nil)))) pa_nil)) (pa_cons (pe_fn F_law_sum (hr.mono (by decide)) (pa_cons (pe_lst (pa_cons (pv 0) (pa_cons (pv 1) (pa_cons (pv 2) (pa_cons (pv 3) pa_nil))))) pa_nil)) pa_nil)))))) pa_nil)))))
        (pss_one (ps_ret pe_bl))
        pss_nil)
      (pss_mid (ps_set (i := 4) nd rfl (by first | exact Or.inl rfl | exact Or.inr rfl) (pe_fn F_law_min (hr.mono (by decide)) (pa_cons (pe_fn F_law_min (hr.mono (by decide)) (pa_cons (pv 0) (pa_cons (pv 1) pa_nil))) (pa_cons (pe_fn F_law_min (hr.mono (by decide)) (pa_cons (pv 2) (pa_cons (pv 3) pa_nil))) pa_nil))))
      (pss_mid (ps_set (i := 5) nd rfl (by first | exact Or.inl rfl | exact Or.inr rfl) (pe_fn F_law_max (hr.mono (by decide)) (pa_cons (pe_fn F_law_max (hr.mono (by decide)) (pa_cons (pv 0) (pa_cons (pv 1) pa_nil))) (pa_cons (pe_fn F_law_max (hr.mono (by decide)) (pa_cons (pv 2) (pa_cons (pv 3) pa_nil))) pa_nil))))
      (pss_one (ps_ret (pe_fn F_law_like (hr.mono (by decide)) (pa_cons (pe_lst (pa_cons (pe_fn Fsmallest (hr.mono (by decide)) (pa_cons (pv 0) pa_nil)) (pa_cons (pe_fn Fsmallest (hr.mono (by decide)) (pa_cons (pv 0) (pa_cons (pv 1) (pa_cons (pv 2) (pa_cons (pv 3) pa_nil))))) (pa_cons (pe_fn Fsmallest (hr.mono (by decide)) (pa_cons (pv 2) (pa_cons (pv 3) (pa_cons (pv 1) (pa_cons (pv 0) pa_nil))))) (pa_cons (pe_fn Flargest (hr.mono (by decide)) (pa_cons (pv 0) pa_nil)) (pa_cons (pe_fn Flargest (hr.mono (by decide)) (pa_cons (pv 0) (pa_cons (pv 1) (pa_cons (pv 2) (pa_cons (pv 3) pa_nil))))) (pa_cons (pe_fn Flargest (hr.mono (by decide)) (pa_cons (pv 3) (pa_cons (pv 2) (pa_cons (pv 0) (pa_cons (pv 1) pa_nil))))) pa_nil))))))) (pa_cons (pe_lst (pa_cons (pv 0) (pa_cons (pv 4) (pa_cons (pv 4) (pa_cons (pv 0) (pa_cons (pv 5) (pa_cons (pv 5) pa_nil))))))) pa_nil)))))))), ?_⟩
    show (_ : TS) _ [some _, some _, some _, some _, none, none] _
    try dsimp only [cxOf, Cx.nox]
    have w1 : Sz 4000 p := z1.mono (by decide)
    have w2 : Sz 4000 q := z2.mono (by decide)
    have w3 : Sz 4000 r := z3.mono (by decide)
    have w4 : Sz 4000 s := z4.mono (by decide)
    have zz : ∀ qs : List Rat, (∀ x ∈ qs, x = p ∨ x = q ∨ x = r ∨ x = s) → ∀ x ∈ qs, Sz 114 x := fun qs h x hx => by
      rcases h x hx with rfl | rfl | rfl | rfl <;> assumption
    have zn : ∀ qs : List Rat, (∀ x ∈ qs, x = p ∨ x = q ∨ x = r ∨ x = s) → ∀ x ∈ qs, 0 ≤ x := fun qs h x hx => by
      rcases h x hx with rfl | rfl | rfl | rfl <;> assumption
    refine r_mid (fun σ' H' => σ' = [some v1, some v2, some v3, some v4, none, none] ∧ Ext [] H H') ?_ ?_
    · walk_at "go"
      refine k_plusN (qs := []) Ams.nil (fun _ z => nomatch z) (by decide) fun u0 H1 e1 b1 => ?_
      walk_at "go"
      refine k_plusN (qs := [p]) (Ams.cons (by walk_at "am") Ams.nil) (zz _ (by simp)) (by simp) fun u1 H2 e2 b2 => ?_
      walk_at "go"
      refine k_plusN (qs := [p, q]) (Ams.cons (by walk_at "am") (Ams.cons (by walk_at "am") Ams.nil)) (zz _ (by simp)) (by simp) fun u2 H3 e3 b3 => ?_
      walk_at "go"
      refine k_plusN (qs := [p, q, r]) (Ams.cons (by walk_at "am") (Ams.cons (by walk_at "am") (Ams.cons (by walk_at "am") Ams.nil))) (zz _ (by simp)) (by simp) fun u3 H4 e4 b4 => ?_
      walk_at "go"
      refine k_plusN (qs := [p, q, r, s]) (Ams.cons (by walk_at "am") (Ams.cons (by walk_at "am") (Ams.cons (by walk_at "am") (Ams.cons (by walk_at "am") Ams.nil)))) (zz _ (by simp)) (by simp) fun u4 H5 e5 b5 => ?_
      rw [show sumQ [] = 0 from rfl] at b1
      rw [show sumQ [p] = p from Rat.zero_add p] at b2
      walk_at "go"
      refine k_sum (xs := [v1, v2]) (qs := [p, q]) (by walk_at "sq") (Ams.cons (by walk_at "am") (Ams.cons (by walk_at "am") Ams.nil)) (zz _ (by simp)) (zn _ (by simp)) (by simp) fun x2 H6 e6 c2 => ?_
      walk_at "go"
      refine k_sum (xs := [v1, v2, v3]) (qs := [p, q, r]) (by walk_at "sq") (Ams.cons (by walk_at "am") (Ams.cons (by walk_at "am") (Ams.cons (by walk_at "am") Ams.nil))) (zz _ (by simp)) (zn _ (by simp)) (by simp) fun x3 H7 e7 c3 => ?_
      walk_at "go"
      refine k_sum (xs := [v1, v2, v3, v4]) (qs := [p, q, r, s]) (by walk_at "sq") (Ams.cons (by walk_at "am") (Ams.cons (by walk_at "am") (Ams.cons (by walk_at "am") (Ams.cons (by walk_at "am") Ams.nil)))) (zz _ (by simp)) (zn _ (by simp)) (by simp) fun x4 H8 e8 c4 => ?_
      walk_at "go"
      refine k_like (ams_eqd (xs := [u0, u1, u2, u3, u4]) (qs := [0, p, sumQ [p, q], sumQ [p, q, r], sumQ [p, q, r, s]]) (by walk_at "sq") (by walk_at "sq") (Ams.cons (by walk_at "am") (Ams.cons (by walk_at "am") (Ams.cons (by walk_at "am") (Ams.cons (by walk_at "am") (Ams.cons (by walk_at "am") Ams.nil))))) (Ams.cons ⟨_, rfl, by walk_at "sq"⟩ (Ams.cons (by walk_at "am") (Ams.cons (by walk_at "am") (Ams.cons (by walk_at "am") (Ams.cons (by walk_at "am") Ams.nil))))) (by simp) 2) fun H9 e9 => ?_
      walk_at "run"
      exact ⟨rfl, by walk_at "ext"⟩
    · rintro σ' H0 ⟨rfl, e0⟩
      refine r_mid (fun σ' H' => ∃ lo, σ' = [some v1, some v2, some v3, some v4, some lo, none] ∧ Ext [] H0 H' ∧ Am K H' lo (lmin (lmin p q) (lmin r s))) ?_ ?_
      · walk_at "go"
        refine k_two (by walk_at "am") (by walk_at "am") w1 w2 p0 q0 trivial fun u1 H1 e1 b1 => ?_
        walk_at "go"
        refine k_two (by walk_at "am") (by walk_at "am") w3 w4 r0 s0 trivial fun u2 H2 e2 b2 => ?_
        walk_at "go"
        refine k_two (by walk_at "am") b2 (lmin_p w1 w2) (lmin_p w3 w4) (lmin_p p0 q0) (lmin_p r0 s0) trivial fun u3 H3 e3 b3 => ?_
        walk_at "go"
        exact ⟨_, rfl, by walk_at "ext", b3⟩
      · rintro σ' H10 ⟨lo, rfl, e10, alo⟩
        refine r_mid (fun σ' H' => ∃ hi, σ' = [some v1, some v2, some v3, some v4, some lo, some hi] ∧ Ext [] H10 H' ∧ Am K H' hi (lmax (lmax p q) (lmax r s))) ?_ ?_
        · walk_at "go"
          refine k_two (by walk_at "am") (by walk_at "am") w1 w2 p0 q0 trivial fun u1 H1 e1 b1 => ?_
          walk_at "go"
          refine k_two (by walk_at "am") (by walk_at "am") w3 w4 r0 s0 trivial fun u2 H2 e2 b2 => ?_
          walk_at "go"
          refine k_two (by walk_at "am") b2 (lmax_p w1 w2) (lmax_p w3 w4) (lmax_p p0 q0) (lmax_p r0 s0) trivial fun u3 H3 e3 b3 => ?_
          walk_at "go"
          exact ⟨_, rfl, by walk_at "ext", b3⟩
        · rintro σ' H20 ⟨hi, rfl, e20, ahi⟩
          walk_at "go"
          refine k_minN (q0 := p) (qs := []) (Ams.cons (by walk_at "am") Ams.nil) (zz _ (by simp)) (by simp) fun u1 H1 e1 b1 => ?_
          walk_at "go"
          refine k_minN (q0 := p) (qs := [q, r, s]) (Ams.cons (by walk_at "am") (Ams.cons (by walk_at "am") (Ams.cons (by walk_at "am") (Ams.cons (by walk_at "am") Ams.nil)))) (zz _ (by simp)) (by simp) fun u2 H2 e2 b2 => ?_
          walk_at "go"
          refine k_minN (q0 := r) (qs := [s, q, p]) (Ams.cons (by walk_at "am") (Ams.cons (by walk_at "am") (Ams.cons (by walk_at "am") (Ams.cons (by walk_at "am") Ams.nil)))) (zz _ (by simp)) (by simp) fun u3 H3 e3 b3 => ?_
          walk_at "go"
          refine k_minN (q0 := p) (qs := []) (Ams.cons (by walk_at "am") Ams.nil) (zz _ (by simp)) (by simp) fun u4 H4 e4 b4 => ?_
          walk_at "go"
          refine k_minN (q0 := p) (qs := [q, r, s]) (Ams.cons (by walk_at "am") (Ams.cons (by walk_at "am") (Ams.cons (by walk_at "am") (Ams.cons (by walk_at "am") Ams.nil)))) (zz _ (by simp)) (by simp) fun u5 H5 e5 b5 => ?_
          walk_at "go"
          refine k_minN (q0 := s) (qs := [r, p, q]) (Ams.cons (by walk_at "am") (Ams.cons (by walk_at "am") (Ams.cons (by walk_at "am") (Ams.cons (by walk_at "am") Ams.nil)))) (zz _ (by simp)) (by simp) fun u6 H6 e6 b6 => ?_
          rw [min_1] at b1
          rw [min_4] at b2
          rw [min_4'] at b3
          rw [max_1] at b4
          rw [max_4] at b5
          rw [max_4'] at b6
          walk_at "go"
          refine k_like (ams_eqd (xs := [u1, u2, u3, u4, u5, u6]) (ys := [v1, lo, lo, v1, hi, hi]) (qs := [p, lmin (lmin p q) (lmin r s), lmin (lmin p q) (lmin r s), p, lmax (lmax p q) (lmax r s), lmax (lmax p q) (lmax r s)]) (by walk_at "sq") (by walk_at "sq") (Ams.cons (by walk_at "am") (Ams.cons (by walk_at "am") (Ams.cons (by walk_at "am") (Ams.cons (by walk_at "am") (Ams.cons (by walk_at "am") (Ams.cons (by walk_at "am") Ams.nil)))))) (Ams.cons (by walk_at "am") (Ams.cons (by walk_at "am") (Ams.cons (by walk_at "am") (Ams.cons (by walk_at "am") (Ams.cons (by walk_at "am") (Ams.cons (by walk_at "am") Ams.nil)))))) (by simp) 2) fun H9 e9 => ?_
          exact k H9 (by walk_at "ext")
end
end Yk

set_option maxHeartbeats 8000000
namespace Yk
open PySem PySem.Spec PyProof.Rows L2 TL LamX

/-! The law's look at texts. -/
theorem splS_1 : ∀ {l : List Nat}, 47 ∉ l → splS l = [l]
  | [], _ => rfl
  | c :: r, h => by
    have hc : ¬ c = 47 := fun z => h (by rw [z]; exact List.mem_cons_self)
    have ih := splS_1 (l := r) (fun z => h (List.mem_cons_of_mem _ z))
    unfold splS
    rw [if_neg hc, ih]
theorem splS_2 : ∀ {a r : List Nat}, 47 ∉ a → splS (a ++ 47 :: r) = a :: splS r
  | [], r, _ => by
    show splS (47 :: r) = [] :: splS r
    rw [show splS (47 :: r) = if 47 = 47 then [] :: splS r else _ from rfl, if_pos rfl]
  | c :: a, r, h => by
    have hc : ¬ c = 47 := fun z => h (by rw [z]; exact List.mem_cons_self)
    have ih := splS_2 (a := a) (r := r) (fun z => h (List.mem_cons_of_mem _ z))
    show splS (c :: (a ++ 47 :: r)) = (c :: a) :: splS r
    rw [splS, if_neg hc, ih]
theorem no_slash (n : Nat) : 47 ∉ numL n := fun h => by have := numL_range h; omega
theorem num_dg (n : Nat) : (numL n).all dg = true := List.all_eq_true.mpr fun c hc => by
  have := numL_range hc
  unfold dg
  rw [decide_eq_true this.1, decide_eq_true this.2]
  rfl
theorem good_num {n : Nat} (h : n < 2 ^ 1200) : goodB (numL n) = true := by
  have hl : (numL n).length ≤ 400 := numL_le (by decide) (Nat.lt_of_lt_of_le h (by decide +kernel))
  unfold goodB
  rw [num_dg, decide_eq_true hl]
  have h0 : (numL n).isEmpty = false := by
    cases e : numL n with
    | nil => exact absurd e (numL_ne n)
    | cons _ _ => rfl
  rw [h0]
  by_cases hn : n = 0
  · subst hn
    rw [numL_digit (by decide)]
    rfl
  · obtain ⟨c, r, e, hc⟩ := numL_head n (by omega)
    rw [e]
    have : decide ((c :: r).head? = some 48) = false := decide_eq_false fun z => hc (Option.some.inj z)
    rw [this]
    simp
theorem numV_num (n : Nat) : numV (numL n) = n := numL_val n
theorem rd_am {q : Rat} (hq : 0 ≤ q) (hz : Sz 1200 q) : rdD (.str (amTxt q)) = some (q.num.toNat, q.den) := by
  have z1 : q.num.toNat < 2 ^ 1200 := by
    have := hz.1
    rw [num_nat hq] at this
    exact this
  unfold amTxt
  by_cases hd : q.den = 1
  · rw [if_pos hd]
    show rdP (splS (tl (nt q.num.toNat))) = _
    rw [tl_nt, splS_1 (no_slash _)]
    show (if goodB (numL q.num.toNat) = true then some (numV (numL q.num.toNat), 1) else none) = _
    rw [if_pos (good_num z1), numV_num, hd]
  · rw [if_neg hd]
    show rdP (splS (tl (nt q.num.toNat ++ Str.ofString "/" ++ nt q.den))) = _
    rw [tl_append, tl_append, tl_slash, tl_nt, tl_nt, List.append_assoc]
    show rdP (splS (numL q.num.toNat ++ 47 :: numL q.den)) = _
    rw [splS_2 (no_slash _), splS_1 (no_slash _)]
    show (if goodB (numL q.num.toNat) = true ∧ goodB (numL q.den) = true ∧ 2 ≤ numV (numL q.den) ∧ Nat.gcd (numV (numL q.num.toNat)) (numV (numL q.den)) = 1 then some (numV (numL q.num.toNat), numV (numL q.den)) else none) = _
    have hr := q.reduced
    have e : q.num.natAbs = q.num.toNat := by have := num_nat hq; omega
    rw [e] at hr
    have h2 : 2 ≤ q.den := by have := q.den_pos; omega
    rw [numV_num, numV_num, if_pos ⟨good_num z1, good_num hz.2, h2, hr⟩]
theorem amTxt_len {q : Rat} (hq : 0 ≤ q) (hz : Sz 114 q) : (amTxt q).length ≤ 1000 := by
  have z1 : q.num.toNat < 2 ^ 114 := by
    have := hz.1
    rw [num_nat hq] at this
    exact this
  have l : ∀ n : Nat, n < 2 ^ 114 → (nt n).length ≤ 114 := fun n h => by rw [len_nt]; exact numL_le (by decide) (bits_lt h)
  have h1 := l _ z1
  have h2 := l _ hz.2
  unfold amTxt
  split
  · omega
  · rw [len_app, len_app, show (Str.ofString "/").length = 1 by decide +kernel]
    omega
section
variable {K : PySem.W.Frag} {H H1 : Hp} {v v2 : V} {o : Option (Nat × Nat)}
theorem RdIs.x0 (e : Ext [] H H1) (h : RdIs K H v o) : RdIs K H1 v o := by
  rcases h with ⟨rfl, rfl⟩ | ⟨a, n, d, rfl, rfl, h⟩
  · exact .inl ⟨rfl, rfl⟩
  · exact .inr ⟨a, n, d, rfl, rfl, tup0 e h⟩
theorem rd_eqd (h1 : RdIs K H v o) (h2 : RdIs K H v2 o) (n : Nat) : Eqd K H (n + 1) v v2 := by
  rcases h1 with ⟨rfl, rfl⟩ | ⟨a, x, d, rfl, rfl, h⟩
  · rcases h2 with ⟨_, rfl⟩ | ⟨a, x, d, e, rfl, h⟩
    · exact .non _
    · cases e
  · rcases h2 with ⟨e, rfl⟩ | ⟨a2, x2, d2, e, rfl, h2⟩
    · cases e
    · cases e
      refine .tup h h2 rfl (show 2 ≤ 4000 by decide) fun i y y2 hy hy2 => ?_
      rw [hy] at hy2
      cases hy2
      match i, hy with
      | 0, hy => cases hy; exact .int _ _
      | 1, hy => cases hy; exact .int _ _
      | i + 2, hy => cases hy
theorem rd_amt {q : Rat} (hq : 0 ≤ q) (h : RdIs K H v (some (q.num.toNat, q.den))) : Am K H v q := by
  rcases h with ⟨e, _⟩ | ⟨a, n, d, e, rfl, h⟩
  · cases e
  · cases e
    refine ⟨a, rfl, ?_⟩
    have := num_nat hq
    rw [← this] at h
    exact h
theorem k_rd {Q : VK} {E : XK} {d : PyData} (h : Dp K H v d) (hz : ∀ z, d = .str z → z.length ≤ 2010) (k : ∀ v' H', Ext [] H H' → RdIs K H' v' (rdD d) → Q v' H') : spReadD K [v] H Q E := ⟨v, d, rfl, h, hz, k⟩
theorem k_txt {Q : VK} {E : XK} {q : Rat} (a : Am K H v q) (hq : 0 ≤ q) (hz : Sz 114 q) (k : ∀ H', Ext [] H H' → Q (.str (amTxt q)) H') : spAmTxt K [v] H Q E := ⟨v, q, rfl, a, hq, hz.mono (by decide), k⟩
end
theorem list4_eqd {K : PySem.W.Frag} {H : Hp} {a b : Addr} {x1 x2 x3 x4 y1 y2 y3 y4 : V} {n : Nat} (h1 : SqL K H a [x1, x2, x3, x4]) (h2 : SqL K H b [y1, y2, y3, y4]) (e1 : Eqd K H n x1 y1) (e2 : Eqd K H n x2 y2) (e3 : Eqd K H n x3 y3) (e4 : Eqd K H n x4 y4) : Eqd K H (n + 1) (.ref a) (.ref b) := by
  refine .lst h1 h2 rfl (show 4 ≤ 4000 by decide) fun i x y hx hy => ?_
  match i, hx, hy with
  | 0, hx, hy => cases hx; cases hy; exact e1
  | 1, hx, hy => cases hx; cases hy; exact e2
  | 2, hx, hy => cases hx; cases hy; exact e3
  | 3, hx, hy => cases hx; cases hy; exact e4
  | i + 4, hx, _ => cases hx
theorem mkS_len (n : Nat) (z : Str) : (mkS (List.replicate n (tl z)).flatten).length = n * z.length := by
  rw [len_tlz, tl_mkS, List.length_flatten, List.map_replicate, List.sum_replicate_nat, ← len_tlz]
section
variable {P : Program} {w : World} {K : PySem.W.Frag} {mg : Str → Option Value} {base : Heap} {f : Addr} {fd : FuncData}
def spTextSo (K : PySem.W.Frag) : Sp := fun vs H Q _ => ∃ (b : Bag) (v : V) (p : Rat), vs = [.ref b.a, v] ∧ BagAt K H b ∧ Am K H v p ∧ 0 ≤ p ∧ Sz 114 p ∧ ∀ H', BagAt K H' b → Ext [b.a] H H' → Q (.bl true) H'
abbrev s_law_text_so : Stmt := top 57
theorem c_law_text_so : FnScope ["_law_bag_here", "_law_p", "_law_word", "_law_x"] ["_law_bag_here", "_law_p"] (defScope s_law_text_so) := ⟨rfl, rfl, rfl, by decide +kernel, rfl, by decide +kernel, by decide +kernel⟩
theorem f_law_text_so (F : FunD K "_law_text_so" "_law_text_so" (defArgs s_law_text_so) (defBody s_law_text_so) (defScope s_law_text_so) [] [] f fd) (hm : mg "_law_text_so" = some (.ref f)) (T : Bt mg) (F_law_like : Fn P w K mg base 5 "_law_like" (spLike K 5)) (F_law_show : Fn P w K mg base 1 "_law_show" (spAmTxt K)) (Famount_text : Fn P w K mg base 2 "amount_text" (spAmTxt K)) (Xamount_text_0_value : FnX P w K mg base 2 "amount_text" 0 ["value"] [0] (spAmTxt K)) (Fread_amount : Fn P w K mg base 3 "read_amount" (spReadD K)) (Xread_amount_0_text : FnX P w K mg base 3 "read_amount" 0 ["text"] [0] (spReadD K)) (F_law_bent : Fn P w K mg base 3 "_law_bent" (spBent K)) (F_law_read : Fn P w K mg base 2 "_law_read" (spReadD K)) (F_law_of : Fn P w K mg base 2 "_law_of" (spOf K)) (F_law_odd : Fn P w K mg base 3 "_law_odd" (spOdd K)) : Fn P w K mg base 6 "_law_text_so" (spTextSo K) := by
  refine fn_def F hm c_law_text_so (fun vs H Q E h => ?_) (fun _ _ _ _ _ _ us hl => match us, hl with | [_, _], _ => rfl) (fun cdv A outer s H vs Q E hr h => ?_)
  · obtain ⟨b, v, p, rfl, _⟩ := h
    rfl
  · obtain ⟨b, v, p, rfl, hb, hv, p0, hz, k⟩ := h
    have nd := c_law_text_so.nd
    refine ⟨_, (pss_cons (ps_set (i := 2) nd rfl (by first | exact Or.inl rfl | exact Or.inr rfl) (pe_fn F_law_show (hr.mono (by decide)) (pa_cons (pv 1) pa_nil)))
      (pss_mid (ps_if (pt_not (pt_val (pe_fn F_law_like (hr.mono (by decide)) (pa_cons (pe_lst (pa_cons (pe_fn Famount_text (hr.mono (by decide)) (pa_cons (pv 1) pa_nil)) (pa_cons (pe_fnX0 Xamount_text_0_value (hr.mono (by decide)) (pk_cons (pv 1) pk_nil)) (pa_cons (pe_fn Fread_amount (hr.mono (by decide)) (pa_cons (pv 2) pa_nil)) (pa_cons (pe_fnX0 Xread_amount_0_text (hr.mono (by decide)) (pk_cons (pv 2) pk_nil)) pa_nil))))) (pa_cons (pe_lst (pa_cons (pv 2) (pa_cons (pv 2) (pa_cons (pv 1) (pa_cons (pv 1) pa_nil))))) pa_nil)))))
        (pss_one (ps_ret pe_bl))
        pss_nil)
      (pss_cons (ps_set (i := 2) nd rfl (by first | exact Or.inl rfl | exact Or.inr rfl) (pe_fn F_law_bent (hr.mono (by decide)) (pa_cons (pv 0) (pa_cons (pv 2) pa_nil))))
      (pss_mid (ps_if (pt_not (pt_val (pe_fn F_law_like (hr.mono (by decide)) (pa_cons (pe_fn Fread_amount (hr.mono (by decide)) (pa_cons (pv 2) pa_nil)) (pa_cons (pe_fn F_law_read (hr.mono (by decide)) (pa_cons (pv 2) pa_nil)) pa_nil)))))
        (pss_one (ps_ret pe_bl))
        pss_nil)
      (pss_mid (ps_set (i := 2) nd rfl (by first | exact Or.inl rfl | exact Or.inr rfl) (pe_op op_repS (pe_fn F_law_of (hr.mono (by decide)) (pa_cons (pv 0) (pa_cons (pe_lst (pa_cons pe_str (pa_cons pe_str (pa_cons pe_str pa_nil)))) pa_nil))) (pe_fn F_law_of (hr.mono (by decide)) (pa_cons (pv 0) (pa_cons (pe_lst (pa_cons pe_int (pa_cons pe_int (pa_cons pe_int pa_nil)))) pa_nil)))))
      (pss_cons (ps_set (i := 2) nd rfl (by first | exact Or.inl rfl | exact Or.inr rfl) (pe_fn F_law_of (hr.mono (by decide)) (pa_cons (pv 0) (pa_cons (pe_lst (pa_cons (pv 2) (pa_cons (pe_op op_add_str pe_str (pv 2)) (pa_cons (pe_op op_add_str (pe_op op_add_str (pv 2) pe_str) (pv 2)) (pa_cons (pe_op op_add_str pe_str (pv 2)) (pa_cons (pe_op op_add_str (pv 2) pe_str) pa_nil)))))) pa_nil))))
      (pss_mid (ps_if (pt_not (pt_val (pe_fn F_law_like (hr.mono (by decide)) (pa_cons (pe_fn Fread_amount (hr.mono (by decide)) (pa_cons (pv 2) pa_nil)) (pa_cons (pe_fn F_law_read (hr.mono (by decide)) (pa_cons (pv 2) pa_nil)) pa_nil)))))
        (pss_one (ps_ret pe_bl))
        pss_nil)
      (pss_cons (ps_set (i := 3) nd rfl (by first | exact Or.inl rfl | exact Or.inr rfl) (pe_fn F_law_odd (hr.mono (by decide)) (pa_cons (pv 0) pa_nil)))
      (pss_one (ps_ret (pe_fn F_law_like (hr.mono (by decide)) (pa_cons (pe_fn Fread_amount (hr.mono (by decide)) (pa_cons (pv 3) pa_nil)) (pa_cons (pe_fn F_law_read (hr.mono (by decide)) (pa_cons (pv 3) pa_nil)) pa_nil))))))))))))), ?_⟩
    show (_ : TS) _ [some _, some _, none, none] _
    try dsimp only [cxOf, Cx.nox]
    have lw := amTxt_len p0 hz
    have rp := rd_am p0 (hz.mono (by decide))
    walk_at "go"
    refine k_txt hv p0 hz fun H1 e1 => ?_
    walk_at "go"
    have hv1 := hv.x0 e1
    have hb1 := hb.x0 e1
    refine r_mid (fun σ' H' => σ' = [some (V.ref b.a), some v, some (.str (amTxt p)), none] ∧ Ext [] H1 H') ?_ ?_
    · walk_at "go"
      refine k_txt hv1 p0 hz fun H2 e2 => ?_
      walk_at "go"
      refine ⟨[_], rfl, ?_⟩
      refine k_txt (hv1.x0 e2) p0 hz fun H3 e3 => ?_
      walk_at "go"
      refine k_rd (.str (amTxt p)) (fun z e => by cases e; omega) fun r1 H4 e4 t1 => ?_
      rw [rp] at t1
      walk_at "go"
      refine ⟨[_], rfl, ?_⟩
      refine k_rd (.str (amTxt p)) (fun z e => by cases e; omega) fun r2 H5 e5 t2 => ?_
      rw [rp] at t2
      have a1 := (rd_amt p0 t1).x0 e5
      have a2 := rd_amt p0 t2
      have a3 := (((hv1.x0 e2).x0 e3).x0 e4).x0 e5
      walk_at "go"
      refine k_like (list4_eqd (n := 3) (lstN lstS (by assumption)) lstS (.str _ _) (.str _ _) (Am.eqd 2 (Am.x0 (by walk_at "ext") a1) (Am.x0 (by walk_at "ext") a3)) (Am.eqd 2 (Am.x0 (by walk_at "ext") a2) (Am.x0 (by walk_at "ext") a3))) fun H8 e8 => ?_
      walk_at "run"
      exact ⟨rfl, by walk_at "ext"⟩
    · rintro σ' H10 ⟨rfl, e10⟩
      have b10 := hb1.x0 e10
      walk_at "go"
      refine ⟨b, _, rfl, b10, lw, fun z' H11 lz b11 n11 => ?_⟩
      walk_at "go"
      refine r_mid (fun σ' H' => σ' = [some (V.ref b.a), some v, some (.str z'), none] ∧ Ext [] H11 H') ?_ ?_
      · walk_at "go"
        refine k_rd (.str z') (fun z e => by cases e; exact lz) fun r1 H2 e2 t1 => ?_
        walk_at "go"
        refine k_rd (.str z') (fun z e => by cases e; exact lz) fun r2 H3 e3 t2 => ?_
        walk_at "go"
        refine k_like (rd_eqd (t1.x0 e3) t2 3) fun H4 e4 => ?_
        walk_at "run"
        exact ⟨rfl, (e2.trans e3).trans e4⟩
      · rintro σ' H12 ⟨rfl, e12⟩
        have b12 := b11.x0 e12
        refine r_mid (fun σ' H' => ∃ z : Str, σ' = [some (V.ref b.a), some v, some (.str z), none] ∧ z.length ≤ 802 ∧ BagAt K H' b ∧ Ext [b.a] H12 H') ?_ ?_
        · walk_at "go"
          rename_i l hl
          refine of_all (Pv := fun v => ∃ s : Str, v = .str s ∧ 1 ≤ s.length ∧ s.length ≤ 2) (b12.new hl) lstS (b12.ne hl) (by decide) (by decide) (fun v hv => ?_) fun v1 H2 hv1 b2 n2 => ?_
          · simp only [List.mem_cons, List.not_mem_nil, or_false] at hv
            rcases hv with rfl | rfl | rfl <;> exact ⟨_, rfl, by decide +kernel, by decide +kernel⟩
          · obtain ⟨s1, rfl, l1, l2⟩ := hv1
            walk_at "go"
            rename_i l3 hl3
            refine of_all (Pv := fun v => ∃ n : Nat, v = .int (n : Int) ∧ 2 ≤ n ∧ n ≤ 401) (b2.new hl3) lstS (b2.ne hl3) (by decide) (by decide) (fun v hv => ?_) fun v3 H3 hv3 b3 n3 => ?_
            · simp only [List.mem_cons, List.not_mem_nil, or_false] at hv
              rcases hv with rfl | rfl | rfl
              · exact ⟨200, rfl, by decide, by decide⟩
              · exact ⟨400, rfl, by decide, by decide⟩
              · exact ⟨401, rfl, by decide, by decide⟩
            · obtain ⟨n, rfl, m1, m2⟩ := hv3
              walk_at "go"
              refine ⟨s1, n, rfl, rfl, m1, by omega, l1, by omega, ?_⟩
              walk_at "go"
              exact ⟨_, rfl, by rw [mkS_len]; have := Nat.mul_le_mul m2 l2; omega, b3, (Ext.refl.new hl).trans (n2.trans ((Ext.refl.new hl3).trans n3))⟩
        · rintro σ' H20 ⟨z, rfl, lz2, b20, n20⟩
          have h4 : ∀ n : Nat, n ≤ 4000 → n ≤ sizeLine := fun n h => Nat.le_trans h (by decide)
          have c1 : (Str.ofString "1/").length = 2 := by decide +kernel
          have c2 : (Str.ofString "/").length = 1 := by decide +kernel
          have c3 : (Str.ofString "0/").length = 2 := by decide +kernel
          have c4 : (Str.ofString "0").length = 1 := by decide +kernel
          have d1 := len_app (Str.ofString "1/") z
          have d2 := len_app z (Str.ofString "/")
          have d3 := len_app (z ++ Str.ofString "/") z
          have d4 := len_app (Str.ofString "0/") z
          have d5 := len_app z (Str.ofString "0")
          walk_at "go"
          refine ⟨_, _, rfl, rfl, h4 _ (by omega), ?_⟩
          walk_at "go"
          refine ⟨_, _, rfl, rfl, h4 _ (by omega), ?_⟩
          walk_at "go"
          refine ⟨_, _, rfl, rfl, h4 _ (by omega), ?_⟩
          walk_at "go"
          refine ⟨_, _, rfl, rfl, h4 _ (by omega), ?_⟩
          walk_at "go"
          refine ⟨_, _, rfl, rfl, h4 _ (by omega), ?_⟩
          walk_at "go"
          rename_i l hl
          refine of_all (Pv := fun v => ∃ s : Str, v = .str s ∧ s.length ≤ 2010) (b20.new hl) lstS (b20.ne hl) (Nat.succ_pos _) (by simp) (fun v hv => ?_) fun v1 H21 hv1 b21 n21 => ?_
          · simp only [List.mem_cons, List.not_mem_nil, or_false] at hv
            rcases hv with rfl | rfl | rfl | rfl | rfl <;> exact ⟨_, rfl, by omega⟩
          · obtain ⟨w1, rfl, lw1⟩ := hv1
            have n02 : Ext [b.a] H H21 := e1.of0.trans (e10.of0.trans (n11.trans (e12.of0.trans (n20.trans ((Ext.refl.new hl).trans n21)))))
            walk_at "go"
            refine r_mid (fun σ' H' => σ' = [some (V.ref b.a), some v, some (.str w1), none] ∧ Ext [] H21 H') ?_ ?_
            · walk_at "go"
              refine k_rd (.str w1) (fun z e => by cases e; exact lw1) fun r1 H2 e2 t1 => ?_
              walk_at "go"
              refine k_rd (.str w1) (fun z e => by cases e; exact lw1) fun r2 H3 e3 t2 => ?_
              walk_at "go"
              refine k_like (rd_eqd (t1.x0 e3) t2 3) fun H4 e4 => ?_
              walk_at "run"
              exact ⟨rfl, (e2.trans e3).trans e4⟩
            · rintro σ' H30 ⟨rfl, e30⟩
              walk_at "go"
              refine ⟨b, rfl, b21.x0 e30, fun vx dx H31 hx ox b31 n31 => ?_⟩
              have lx : ∀ z, dx = .str z → z.length ≤ 2010 := fun z e => by
                subst e
                unfold okB at ox
                rw [Bool.and_eq_true] at ox
                have := of_decide_eq_true ox.2
                omega
              walk_at "go"
              refine k_rd hx.dp lx fun r1 H2 e2 t1 => ?_
              walk_at "go"
              refine k_rd (dpx0 e2 hx.dp) lx fun r2 H3 e3 t2 => ?_
              walk_at "go"
              refine k_like (rd_eqd (t1.x0 e3) t2 3) fun H4 e4 => ?_
              exact k H4 (((b31.x0 e2).x0 e3).x0 e4) (n02.trans (e30.of0.trans (n31.trans ((e2.trans e3).trans e4).of0)))
end
end Yk

set_option maxHeartbeats 8000000
namespace Yk
open PySem PySem.Spec PyProof.Rows L2 TL LamX

/-! The law's look at any data. -/
local macro_rules | `(tactic| walk_at "na") => `(tactic| (intro hq; exact BagAt.ne' (K := ‹PySem.W.Frag›) (by assumption) (by walk_at "bag") (List.mem_singleton.mp hq).symm))
local macro_rules | `(tactic| walk_at "dq") => `(tactic| first
  | exact Dq.non
  | exact Dq.bl _
  | exact Dq.int _
  | exact Dq.str _
  | ((refine' Dq.tup ?h1 ?h2); (case h1 => walk_at "sq"); (case h2 => walk_at "dqs"))
  | ((refine' Dq.lst ?h0 ?h1 ?h2); (case h1 => walk_at "sq"); (case h0 => walk_at "na"); (case h2 => walk_at "dqs")))
local macro_rules | `(tactic| walk_at "dqs") => `(tactic| first
  | exact DqAll.nil
  | ((refine' DqAll.cons ?g1 ?g2); (case g1 => walk_at "dq"); (case g2 => walk_at "dqs")))
theorem bools_eqd {K : PySem.W.Frag} {H : Hp} {a b : Addr} {bs : List Bool} (h1 : SqL K H a (bs.map V.bl)) (h2 : SqL K H b (bs.map V.bl)) (hl : bs.length ≤ 4000) (n : Nat) : Eqd K H (n + 1) (.ref a) (.ref b) :=
  .lst h1 h2 rfl (by rw [List.length_map]; exact hl) fun i x y hx hy => by
    rw [hx] at hy
    cases hy
    rw [List.getElem?_map] at hx
    cases e : bs[i]? with
    | none => rw [e] at hx; cases hx
    | some z => rw [e] at hx; cases hx; exact .bl _ _
theorem amD_y {p : Rat} (h : 0 ≤ p) : amD (.tuple [.int p.num, .int (p.den : Int)]) = true := by
  have h1 := num_nn h
  have h2 := p.den_pos
  have h3 := p.reduced
  show (decide (0 ≤ p.num) && (decide (1 ≤ (p.den : Int)) && decide (Nat.gcd p.num.natAbs (p.den : Int).natAbs = 1))) = true
  rw [decide_eq_true h1, decide_eq_true (show 1 ≤ (p.den : Int) by omega), decide_eq_true (show Nat.gcd p.num.natAbs (p.den : Int).natAbs = 1 from h3)]
  rfl
theorem smAmB_p {p : Rat} (h : Sz 114 p) : smAmB (.tuple [.int p.num, .int (p.den : Int)]) = true := by
  have h1 : p.num.natAbs < 2 ^ 200 := Nat.lt_of_lt_of_le h.1 (by decide)
  have h2 : p.den < 2 ^ 200 := Nat.lt_of_lt_of_le h.2 (by decide)
  show (decide (p.num.natAbs < 2 ^ 200) && decide ((p.den : Int).natAbs < 2 ^ 200)) = true
  rw [decide_eq_true h1, decide_eq_true (show (p.den : Int).natAbs < 2 ^ 200 from h2)]
  rfl
theorem smAmB_i {i j : Int} (h1 : i.natAbs < 2 ^ 200) (h2 : j.natAbs < 2 ^ 200) : smAmB (.tuple [.int i, .int j]) = true := by
  show (decide _ && decide _) = true
  rw [decide_eq_true h1, decide_eq_true h2]
  rfl
section
variable {K : PySem.W.Frag} {H H1 : Hp} {Q : VK} {E : XK} {v : V} {d : PyData}
theorem of_dqP {b : Bag} {l : Addr} {xs : List V} {ds : List PyData} {Pd : PyData → Prop} (hb : BagAt K H b) (hl : SqL K H l xs) (hne : b.a ≠ l) (ha : DqAll K [b.a] H xs ds) (hok : ∀ d ∈ ds, Pd d) (h0 : 0 < xs.length) (h4 : xs.length ≤ 4000)
    (k : ∀ v d H', Dq K [b.a] H' v d → Pd d → BagAt K H' b → Ext [b.a] H H' → Q v H') : spOf K [.ref b.a, .ref l] H Q E :=
  ⟨b, l, xs, rfl, hb, hl, hne, h0, h4, fun i v H' hv hb' e => by
    obtain ⟨d, hd, hq⟩ := ha.get hv
    exact k v d H' (hq.b hb e) (hok d (List.mem_of_getElem? hd)) hb' e⟩
theorem k_isam (h : Dp K H v d) (k : Q (.bl (amD d)) H) : spIsAmD K [v] H Q E := ⟨v, d, rfl, h, k⟩
theorem k_issm (h : Dp K H v d) (s : smAmB d = true) (k : Q (.bl (smD d)) H) : spSmallD K [v] H Q E := ⟨v, d, rfl, h, s, k⟩
theorem k_lisam (h : Dp K H v d) (s : smAmB d = true) (k : ∀ H', Ext [] H H' → Q (.bl (amD d)) H') : spLIsAm K [v] H Q E := ⟨v, d, rfl, h, s, k⟩
theorem k_lissm (h : Dp K H v d) (s : smAmB d = true) (k : ∀ H', Ext [] H H' → Q (.bl (smD d)) H') : spLSmallD K [v] H Q E := ⟨v, d, rfl, h, s, k⟩
end
section
variable {P : Program} {w : World} {K : PySem.W.Frag} {mg : Str → Option Value} {base : Heap} {f : Addr} {fd : FuncData}
abbrev s_law_kinds_so : Stmt := top 58
theorem c_law_kinds_so : FnScope ["_law_bag_here", "_law_p", "_law_lot", "_law_x", "_law_y", "_law_z", "_law_one"] ["_law_bag_here", "_law_p"] (defScope s_law_kinds_so) := ⟨rfl, rfl, rfl, by decide +kernel, rfl, by decide +kernel, by decide +kernel⟩
theorem f_law_kinds_so (F : FunD K "_law_kinds_so" "_law_kinds_so" (defArgs s_law_kinds_so) (defBody s_law_kinds_so) (defScope s_law_kinds_so) [] [] f fd) (hm : mg "_law_kinds_so" = some (.ref f)) (T : Bt mg) (F_law_like : Fn P w K mg base 5 "_law_like" (spLike K 5)) (Fis_amount : Fn P w K mg base 2 "is_amount" (spIsAmD K)) (Xis_amount_0_value : FnX P w K mg base 2 "is_amount" 0 ["value"] [0] (spIsAmD K)) (Fis_small : Fn P w K mg base 3 "is_small" (spSmallD K)) (Xis_small_0_value : FnX P w K mg base 3 "is_small" 0 ["value"] [0] (spSmallD K)) (F_law_is_amount : Fn P w K mg base 2 "_law_is_amount" (spLIsAm K)) (F_law_is_small : Fn P w K mg base 3 "_law_is_small" (spLSmallD K)) (F_law_of : Fn P w K mg base 2 "_law_of" (spOf K)) (F_law_odd : Fn P w K mg base 3 "_law_odd" (spOdd K)) : Fn P w K mg base 6 "_law_kinds_so" (spTextSo K) := by
  refine fn_def F hm c_law_kinds_so (fun vs H Q E h => ?_) (fun _ _ _ _ _ _ us hl => match us, hl with | [_, _], _ => rfl) (fun cdv A outer s H vs Q E hr h => ?_)
  · obtain ⟨b, v, p, rfl, _⟩ := h
    rfl
  · obtain ⟨b, v, p, rfl, hb, hv, p0, hz, k⟩ := h
    have nd := c_law_kinds_so.nd
    refine ⟨_, (pss_mid (ps_if (pt_not (pt_val (pe_fn F_law_like (hr.mono (by decide)) (pa_cons (pe_lst (pa_cons (pe_fn Fis_amount (hr.mono (by decide)) (pa_cons (pv 1) pa_nil)) (pa_cons (pe_fn Fis_small (hr.mono (by decide)) (pa_cons (pv 1) pa_nil)) (pa_cons (pe_fnX0 Xis_amount_0_value (hr.mono (by decide)) (pk_cons (pv 1) pk_nil)) (pa_cons (pe_fnX0 Xis_small_0_value (hr.mono (by decide)) (pk_cons (pv 1) pk_nil)) pa_nil))))) (pa_cons (pe_lst (pa_cons pe_bl (pa_cons (pe_fn F_law_is_small (hr.mono (by decide)) (pa_cons (pv 1) pa_nil)) (pa_cons pe_bl (pa_cons (pe_fn F_law_is_small (hr.mono (by decide)) (pa_cons (pv 1) pa_nil)) pa_nil))))) pa_nil)))))
        (pss_one (ps_ret pe_bl))
        pss_nil)
      (pss_cons (ps_set (i := 2) nd rfl (by first | exact Or.inl rfl | exact Or.inr rfl) (pe_fn F_law_of (hr.mono (by decide)) (pa_cons (pv 0) (pa_cons (pe_lst (pa_cons pe_int (pa_cons pe_int (pa_cons pe_int (pa_cons pe_int pa_nil))))) pa_nil))))
      (pss_mid (ps_set (i := 3) nd rfl (by first | exact Or.inl rfl | exact Or.inr rfl) (pe_fn F_law_of (hr.mono (by decide)) (pa_cons (pv 0) (pa_cons (pe_lst (pa_cons (pe_tup (pa_cons (pe_op op_mulW (pe_ix ix_tup (pv 1) pe_int (fun _ _ => rfl)) (pv 2)) (pa_cons (pe_op op_mulW (pe_ix ix_tup (pv 1) pe_int (fun _ _ => rfl)) (pv 2)) pa_nil))) (pa_cons (pe_tup (pa_cons (pe_ix ix_tup (pv 1) pe_int (fun _ _ => rfl)) (pa_cons (pe_ix ix_tup (pv 1) pe_int (fun _ _ => rfl)) (pa_cons pe_int pa_nil)))) (pa_cons (pe_lst (pa_cons (pe_ix ix_tup (pv 1) pe_int (fun _ _ => rfl)) (pa_cons (pe_ix ix_tup (pv 1) pe_int (fun _ _ => rfl)) pa_nil))) (pa_cons (pe_tup (pa_cons (pv 1) (pa_cons (pv 1) pa_nil))) (pa_cons (pe_tup (pa_cons (pe_ix ix_tup (pv 1) pe_int (fun _ _ => rfl)) (pa_cons (pe_ix ix_tup (pv 1) pe_int (fun _ _ => rfl)) pa_nil))) (pa_cons (pe_tup (pa_cons (pe_ix ix_tup (pv 1) pe_int (fun _ _ => rfl)) (pa_cons (pe_callTy call_str_int (by rfl) T.str (by decide +kernel) (pa_cons (pe_ix ix_tup (pv 1) pe_int (fun _ _ => rfl)) pa_nil)) pa_nil))) (pa_cons (pe_tup (pa_cons (pe_op op_sub pe_int (pe_ix ix_tup (pv 1) pe_int (fun _ _ => rfl))) (pa_cons (pe_ix ix_tup (pv 1) pe_int (fun _ _ => rfl)) pa_nil))) (pa_cons (pe_tup (pa_cons (pe_ix ix_tup (pv 1) pe_int (fun _ _ => rfl)) (pa_cons (pe_op op_sub pe_int (pe_ix ix_tup (pv 1) pe_int (fun _ _ => rfl))) pa_nil))) (pa_cons (pe_tup (pa_cons (pe_ix ix_tup (pv 1) pe_int (fun _ _ => rfl)) pa_nil)) (pa_cons (pe_ix ix_tup (pv 1) pe_int (fun _ _ => rfl)) (pa_cons (pe_tup (pa_cons (pe_cmpR op_eq (pe_ix ix_tup (pv 1) pe_int (fun _ _ => rfl)) pe_int (nomark _)) (pa_cons (pe_ix ix_tup (pv 1) pe_int (fun _ _ => rfl)) pa_nil))) (pa_cons (pe_tup (pa_cons pe_non (pa_cons (pe_ix ix_tup (pv 1) pe_int (fun _ _ => rfl)) pa_nil))) (pa_cons (pe_tup (pa_cons (pe_ix ix_tup (pv 1) pe_int (fun _ _ => rfl)) (pa_cons (pe_cmpR op_eq (pe_ix ix_tup (pv 1) pe_int (fun _ _ => rfl)) pe_int (nomark _)) pa_nil))) pa_nil)))))))))))))) pa_nil))))
      (pss_cons (ps_set (i := 4) nd rfl (by first | exact Or.inl rfl | exact Or.inr rfl) (pe_fn F_law_odd (hr.mono (by decide)) (pa_cons (pv 0) pa_nil)))
      (pss_mid (ps_set (i := 5) nd rfl (by first | exact Or.inl rfl | exact Or.inr rfl) (pe_fn F_law_of (hr.mono (by decide)) (pa_cons (pv 0) (pa_cons (pe_lst (pa_cons (pe_tup (pa_cons pe_int (pa_cons pe_int pa_nil))) (pa_cons (pe_tup (pa_cons pe_int (pa_cons pe_int pa_nil))) (pa_cons (pe_tup (pa_cons pe_int (pa_cons pe_int pa_nil))) (pa_cons (pe_tup (pa_cons pe_int (pa_cons pe_int pa_nil))) (pa_cons (pe_tup (pa_cons pe_int (pa_cons pe_int pa_nil))) (pa_cons (pe_tup (pa_cons pe_int (pa_cons pe_int pa_nil))) (pa_cons (pe_tup (pa_cons pe_int (pa_cons pe_int pa_nil))) (pa_cons (pe_tup (pa_cons pe_int (pa_cons pe_int pa_nil))) (pa_cons (pe_tup (pa_cons pe_int (pa_cons pe_int pa_nil))) (pa_cons (pe_tup (pa_cons pe_int (pa_cons pe_int pa_nil))) pa_nil))))))))))) pa_nil))))
      (pss_one (ps_ret (pe_callB (cr_all rfl) (by rfl) T.all (by decide +kernel) (pa_cons (pe_lc (own := [("_law_one", 6)]) (g := gName 6) rfl nd (pi_list (pe_lst (pa_cons (pv 3) (pa_cons (pv 4) (pa_cons (pv 5) pa_nil))))) (blkOk_by (N := ["_law_bag_here", "_law_p", "_law_lot", "_law_x", "_law_y", "_law_z", "_law_one"]) (sc := defScope s_law_kinds_so) (by decide +kernel)) (fun _ _ _ _ _ => pg_name (i := 6) nd rfl (Or.inl rfl)) (fun _ _ _ _ _ => pts_nil) (fun _ _ _ _ _ => (pe_fn F_law_like (hr.mono (by decide)) (pa_cons (pe_lst (pa_cons (pe_fn Fis_amount (hr.mono (by decide)) (pa_cons (pv 6) pa_nil)) (pa_cons (pe_fn Fis_small (hr.mono (by decide)) (pa_cons (pv 6) pa_nil)) pa_nil))) (pa_cons (pe_lst (pa_cons (pe_fn F_law_is_amount (hr.mono (by decide)) (pa_cons (pv 6) pa_nil)) (pa_cons (pe_fn F_law_is_small (hr.mono (by decide)) (pa_cons (pv 6) pa_nil)) pa_nil))) pa_nil))))) pa_nil))))))))), ?_⟩
    show (_ : TS) _ [some _, some _, none, none, none, none, none] _
    try dsimp only [cxOf, Cx.nox]
    have sp := smAmB_p hz
    have hv0 := dp_am hv
    refine r_mid (fun σ' H' => σ' = [some (V.ref b.a), some v, none, none, none, none, none] ∧ Ext [] H H') ?_ ?_
    · walk_at "go"
      refine k_isam hv0 ?_
      rw [amD_y p0]
      walk_at "go"
      refine k_issm hv0 sp ?_
      walk_at "go"
      refine ⟨[_], rfl, ?_⟩
      refine k_isam hv0 ?_
      rw [amD_y p0]
      walk_at "go"
      refine ⟨[_], rfl, ?_⟩
      refine k_issm hv0 sp ?_
      walk_at "go"
      refine k_lissm (dpx0 (by walk_at "ext") hv0) sp fun H1 e1 => ?_
      walk_at "go"
      refine k_lissm (dpx0 (by walk_at "ext") hv0) sp fun H2 e2 => ?_
      walk_at "go"
      refine k_like (bools_eqd (bs := [true, smD (.tuple [.int p.num, .int (p.den : Int)]), true, smD (.tuple [.int p.num, .int (p.den : Int)])]) (by walk_at "sq") (by walk_at "sq") (by simp) 3) fun H3 e3 => ?_
      walk_at "run"
      exact ⟨rfl, by walk_at "ext"⟩
    · rintro σ' H0 ⟨rfl, e0⟩
      have b0 := hb.x0 e0
      obtain ⟨a, rfl, ha⟩ := hv.x0 e0
      walk_at "go"
      rename_i l hl
      refine of_all (Pv := fun v => ∃ n : Nat, v = .int (n : Int) ∧ 1 ≤ n ∧ n ≤ 7) (b0.new hl) lstS (b0.ne hl) (by decide) (by decide) (fun v hv => ?_) fun v1 H1 hv1 b1 n1 => ?_
      · simp only [List.mem_cons, List.not_mem_nil, or_false] at hv
        rcases hv with rfl | rfl | rfl | rfl
        · exact ⟨1, rfl, by decide, by decide⟩
        · exact ⟨2, rfl, by decide, by decide⟩
        · exact ⟨3, rfl, by decide, by decide⟩
        · exact ⟨7, rfl, by decide, by decide⟩
      · obtain ⟨lot, rfl, lo1, lo7⟩ := hv1
        obtain ⟨a', ea, ha1⟩ := Am.b b0 ((Ext.refl.new hl).trans n1) ⟨a, rfl, ha⟩
        cases ea
        have n01 : Ext [b.a] H H1 := e0.of0.trans ((Ext.refl.new hl).trans n1)
        have q1 : p.num.natAbs < 2 ^ 114 := hz.1
        have q2 : p.den < 2 ^ 114 := hz.2
        have m1 : CMulW p.num (lot : Int) := cmul (m := 114) (n := 4) q1 (show lot < 2 ^ 4 by omega) (by decide) (by decide) (by decide)
        have m2 : CMulW (p.den : Int) (lot : Int) := cmul (m := 114) (n := 4) q2 (show lot < 2 ^ 4 by omega) (by decide) (by decide) (by decide)
        clear ha hv0 hv
        walk_at "go"
        refine r_mid (fun σ' H' => ∃ vx dx, σ' = [some (V.ref b.a), some (.ref a), some (.int (lot : Int)), some vx, none, none, none] ∧ Dq K [b.a] H' vx dx ∧ smAmB dx = true ∧ BagAt K H' b ∧ Ext [b.a] H1 H') ?_ ?_
        · walk_at "go"
          refine ⟨_, rfl, Nat.lt_of_lt_of_le (log_lt (b := 114) (by decide) q2) (by decide), ?_⟩
          walk_at "go"
          have t114 : (2 : Nat) ^ 114 * 8 ≤ 2 ^ 200 := by decide
          have t200 : (2 : Nat) ^ 114 ≤ 2 ^ 200 := by decide
          have r1 : (p.num * (lot : Int)).natAbs < 2 ^ 200 := by
            rw [Int.natAbs_mul]
            refine Nat.lt_of_lt_of_le (Nat.mul_lt_mul'' q1 (show (lot : Int).natAbs < 8 by omega)) t114
          have r2 : ((p.den : Int) * (lot : Int)).natAbs < 2 ^ 200 := by
            rw [Int.natAbs_mul]
            refine Nat.lt_of_lt_of_le (Nat.mul_lt_mul'' (show (p.den : Int).natAbs < 2 ^ 114 from q2) (show (lot : Int).natAbs < 8 by omega)) t114
          have r3 : p.num.natAbs < 2 ^ 200 := Nat.lt_of_lt_of_le q1 t200
          have r4 : (p.den : Int).natAbs < 2 ^ 200 := Nat.lt_of_lt_of_le (show (p.den : Int).natAbs < 2 ^ 114 from q2) t200
          have r5 : (0 - p.num).natAbs < 2 ^ 200 := by rw [Int.zero_sub, Int.natAbs_neg]; exact r3
          have r6 : (0 - (p.den : Int)).natAbs < 2 ^ 200 := by rw [Int.zero_sub, Int.natAbs_neg]; exact r4
          refine of_dqP (Pd := fun d => smAmB d = true) (ds := [.tuple [.int (p.num * (lot : Int)), .int ((p.den : Int) * (lot : Int))], .tuple [.int p.num, .int (p.den : Int), .int 1], .list [.int p.num, .int (p.den : Int)], .tuple [.tuple [.int p.num, .int (p.den : Int)], .tuple [.int p.num, .int (p.den : Int)]], .tuple [.int (p.den : Int), .int p.num], .tuple [.int p.num, .str (toString (p.den : Int))], .tuple [.int (0 - p.num), .int (p.den : Int)], .tuple [.int p.num, .int (0 - (p.den : Int))], .tuple [.int p.num], .int p.num, .tuple [.bool (decide (V.int p.num = V.int 0)), .int (p.den : Int)], .tuple [.none, .int (p.den : Int)], .tuple [.int p.num, .bool (decide (V.int (p.den : Int) = V.int 1))]]) (by walk_at "bag") lstS (BagAt.ne' (K := K) (by assumption) (by walk_at "bag")) ?_ ?_ (Nat.succ_pos _) (by simp) fun vx dx H2 hx sx b2 n2 => ?_
          · walk_at "dqs"
          · intro d hd
            simp only [List.mem_cons, List.not_mem_nil, or_false] at hd
            rcases hd with rfl | rfl | rfl | rfl | rfl | rfl | rfl | rfl | rfl | rfl | rfl | rfl | rfl <;> first | exact smAmB_i (by assumption) (by assumption) | rfl
          · walk_at "go"
            exact ⟨_, _, rfl, hx, sx, b2, Ext.trans (Ext.of0 (by walk_at "ext")) n2⟩
        · rintro σ' H2 ⟨vx, dx, rfl, hx, sx, b2, n2⟩
          walk_at "go"
          refine ⟨b, rfl, b2, fun vy dy H3 hy oy b3 n3 => ?_⟩
          have sy : smAmB dy = true := by
            unfold okB at oy
            rw [Bool.and_eq_true, Bool.and_eq_true] at oy
            exact oy.1.2
          have hx3 := hx.b b2 n3
          walk_at "go"
          refine r_mid (fun σ' H' => ∃ vz dz, σ' = [some (V.ref b.a), some (.ref a), some (.int (lot : Int)), some vx, some vy, some vz, none] ∧ Dq K [b.a] H' vz dz ∧ smAmB dz = true ∧ BagAt K H' b ∧ Ext [b.a] H3 H') ?_ ?_
          · walk_at "go"
            refine of_dqP (Pd := fun d => smAmB d = true) (ds := [.tuple [.int 1000, .int 1], .tuple [.int 1001, .int 1], .tuple [.int 12000, .int 11], .tuple [.int 11999, .int 12], .tuple [.int 12001, .int 12], .tuple [.int 1, .int 12], .tuple [.int 1, .int 13], .tuple [.int 999, .int 1], .tuple [.int 0, .int 1], .tuple [.int 0, .int 12]]) (by walk_at "bag") lstS (BagAt.ne' (K := K) (by assumption) (by walk_at "bag")) ?_ ?_ (Nat.succ_pos _) (by simp) fun vz dz H4 hz4 sz b4 n4 => ?_
            · walk_at "dqs"
            · intro d hd
              simp only [List.mem_cons, List.not_mem_nil, or_false] at hd
              rcases hd with rfl | rfl | rfl | rfl | rfl | rfl | rfl | rfl | rfl | rfl <;> decide +kernel
            · walk_at "go"
              exact ⟨_, _, rfl, hz4, sz, b4, Ext.trans (Ext.of0 (by walk_at "ext")) n4⟩
          · rintro σ' H4 ⟨vz, dz, rfl, hz4, sz, b4, n4⟩
            have dall : ∀ v ∈ [vx, vy, vz], ∃ d, Dp K H4 v d ∧ smAmB d = true := fun v hv => by
              simp only [List.mem_cons, List.not_mem_nil, or_false] at hv
              rcases hv with rfl | rfl | rfl
              · exact ⟨dx, (hx3.b b3 n4).dp, sx⟩
              · exact ⟨dy, (hy.b b3 n4).dp, sy⟩
              · exact ⟨dz, hz4.dp, sz⟩
            have n04 : Ext [b.a] H H4 := n01.trans (n2.trans (n3.trans n4))
            walk_at "go"
            rename_i l3 hl3
            have e5 : Ext [] H4 (upd H4 l3 (.lst [vx, vy, vz])) := Ext.refl.new hl3
            have hl5 : upd H4 l3 (.lst [vx, vy, vz]) l3 = some (.lst [vx, vy, vz]) := upd_same
            have b5 := b4.x0 e5
            generalize upd H4 l3 (.lst [vx, vy, vz]) = H5 at *
            refine ⟨l3, rfl, ⟨_, .inl (.inl hl5)⟩, fun D hD => ?_⟩
            refine r_lcL (xs := [vx, vy, vz]) (fun i H1 => H1 D = some (.lst ((List.replicate i true).map V.bl)) ∧ Ext [] H5 H1) ⟨upd_same, Ext.refl.new hD⟩ ?_ ?_ ?_
            · rintro i H6 hi ⟨_, n6⟩
              exact .inl (.inl (n6 _ _ hl5 fun q => nomatch q))
            · rintro i x H6 hx ⟨hb6, n6⟩
              obtain ⟨d, hd, sd⟩ := dall x (List.mem_of_getElem? hx)
              have hi : i < 3 := (List.getElem?_eq_some_iff.mp hx).1
              have hd6 := dpx0 (e5.trans n6) hd
              walk_at "go"
              refine ⟨rfl, ?_⟩
              walk_at "go"
              refine k_isam hd6 ?_
              walk_at "go"
              refine k_issm hd6 sd ?_
              walk_at "go"
              refine k_lisam (dpx0 (by walk_at "ext") hd6) sd fun H7 e7 => ?_
              walk_at "go"
              refine k_lissm (dpx0 (by walk_at "ext") hd6) sd fun H8 e8 => ?_
              walk_at "go"
              refine k_like (bools_eqd (bs := [amD d, smD d]) (by walk_at "sq") (by walk_at "sq") (by simp) 3) fun H9 e9 => ?_
              have e69 : Ext [] H6 H9 := by walk_at "ext"
              refine ⟨_, e69 _ _ hb6 (fun q => nomatch q), Nat.lt_of_le_of_lt (by simp; omega : _ ≤ 4000) (by decide), ?_, (n6.trans e69).own hD⟩
              rw [upd_same, List.replicate_succ', List.map_append]
              rfl
            · rintro H6 ⟨hb6, n6⟩
              walk_at "go"
              refine r_all (bs := List.replicate 3 true) (.inl (.inl hb6)) ?_
              exact k H6 (b5.x0 n6) (n04.trans (e5.trans n6).of0)
end
end Yk

set_option maxHeartbeats 8000000
namespace Yk
open PySem PySem.Spec PyProof.Rows L2 TL LamX

/-! Amounts made. -/
local macro_rules | `(tactic| walk_at "st") => `(tactic| with_reducible refine' r_tG ?_)
local macro_rules | `(tactic| walk_at "na") => `(tactic| (intro hq; exact BagAt.ne' (K := ‹PySem.W.Frag›) (by assumption) (by walk_at "bag") (List.mem_singleton.mp hq).symm))
local macro_rules | `(tactic| walk_at "dq") => `(tactic| first
  | exact Dq.non
  | exact Dq.bl _
  | exact Dq.int _
  | exact Dq.str _
  | ((refine' Dq.tup ?h1 ?h2); (case h1 => walk_at "sq"); (case h2 => walk_at "dqs"))
  | ((refine' Dq.lst ?h0 ?h1 ?h2); (case h1 => walk_at "sq"); (case h0 => walk_at "na"); (case h2 => walk_at "dqs")))
local macro_rules | `(tactic| walk_at "dqs") => `(tactic| first
  | exact DqAll.nil
  | ((refine' DqAll.cons ?g1 ?g2); (case g1 => walk_at "dq"); (case g2 => walk_at "dqs")))
theorem mk_1 (a : Nat) : (mkRat (a : Int) 1).num = (a : Int) ∧ (mkRat (a : Int) 1).den = 1 := by
  obtain ⟨h1, h2⟩ := mk_parts a 1 (by decide)
  rw [h1, h2, Nat.gcd_one_right, Nat.div_one]
  exact ⟨rfl, rfl⟩
section
variable {K : PySem.W.Frag} {H : Hp} {vx vy : V} {dx dy : PyData} {D : Addr}
theorem am_1 {a : Nat} {t : Addr} (h : SqT K H t [.int (a : Int), .int 1]) : Am K H (.ref t) (mkRat (a : Int) 1) := by
  obtain ⟨h1, h2⟩ := mk_1 a
  exact ⟨t, rfl, by rw [h1, h2]; exact h⟩
theorem td_A1 (h : nnD dx = false) (hl : SqL K H D [.str "BadAmount", vx]) : TdIs K H (.ref D) (oA dx dy vx vy) := by
  unfold oA
  rw [if_pos h]
  exact ⟨D, rfl, hl⟩
theorem td_A2 (h1 : nnD dx = true) (h : posD dy = false) (hl : SqL K H D [.str "BadAmount", vy]) : TdIs K H (.ref D) (oA dx dy vx vy) := by
  unfold oA
  rw [if_neg (by rw [h1]; decide), if_pos h]
  exact ⟨D, rfl, hl⟩
theorem td_A3 {a b : Nat} (hb : 0 < b) {v : V} (hl : SqL K H D [.str "told", v]) (am : Am K H v (mkRat (a : Int) b)) : TdIs K H (.ref D) (oA (.int (a : Int)) (.int (b : Int)) vx vy) := by
  have k1 : nnD (.int (a : Int)) = true := by simp [nnD]
  have k2 : posD (.int (b : Int)) = true := by simp [posD]; omega
  unfold oA
  rw [if_neg (by rw [k1]; decide), if_neg (by rw [k2]; decide)]
  exact ⟨D, rfl, v, hl, am⟩
theorem oA_v (hx : Dp K H vx dx) (hy : Dp K H vy dy) (fx : flatD dx = true) (fy : flatD dy = true) (n : Nat) : ∀ x v, oA dx dy vx vy = .inl (x, v) → Eqd K H (n + 1) v v := fun x v e => by
  unfold oA at e
  split at e
  · cases e
    exact flat_eqd hx fx n
  · split at e
    · cases e
      exact flat_eqd hy fy n
    · split at e <;> cases e
end
def okA (d : PyData) : Prop := flatD d = true ∧ ∀ b : Nat, d = .int (b : Int) → b < 2 ^ 4000
theorem okA_i {i : Int} (h : i ≤ 1000000000) : okA (.int i) := ⟨rfl, fun b e => by
  have := PyData.int.inj e
  exact Nat.lt_of_lt_of_le (show b < 2 ^ 40 by omega) (Nat.pow_le_pow_right (by decide) (by decide))⟩
section
variable {P : Program} {w : World} {K : PySem.W.Frag} {mg : Str → Option Value} {base : Heap} {f : Addr} {fd : FuncData}
def spMadeSo (P1 P2 : Addr) (K : PySem.W.Frag) : Sp := fun vs H Q _ => ∃ b : Bag, vs = [.ref b.a] ∧ BagAt K H b ∧ Tabs (CT2 P1 P2) H ∧ ∀ H', BagAt K H' b → Tabs (CT2 P1 P2) H' → ExtT [b.a] H H' → Q (.bl true) H'
abbrev s_law_made_so : Stmt := top 54
theorem c_law_made_so : FnScope ["_law_bag_here", "_law_lot", "_law_a", "_law_b", "_law_due", "_law_some", "_law_x", "_law_y"] ["_law_bag_here"] (defScope s_law_made_so) := ⟨rfl, rfl, rfl, by decide +kernel, rfl, by decide +kernel, by decide +kernel⟩
theorem f_law_made_so (F : FunD K "_law_made_so" "_law_made_so" (defArgs s_law_made_so) (defBody s_law_made_so) (defScope s_law_made_so) [] [] f fd) (hm : mg "_law_made_so" = some (.ref f)) {c1 P1 P2 cA cS : Addr} (hC1 : fd.code = .ref c1) (TBc1 : TabB base mg c1 P1) (hP : P1 ≠ P2) (T : Bt mg) (L_law_told : LamF P w K mg base "_law_told" "_law_deed" (TTold cA cS)) (Lamount_2_ : FnG P w K mg base (L2.CX P w) 3 "amount" 2 [] (fun vs _ => vs) (spAmountX cA K)) (Lamount_0_bottom_top : FnG P w K mg base (L2.CX P w) 3 "amount" 0 ["bottom", "top"] sw2 (spAmountX cA K)) (Qamount_2_ : FnG P w K mg base CX0 3 "amount" 2 [] (fun vs _ => vs) (sp0 (spAmountX cA K))) (Qamount_0_top_bottom : FnG P w K mg base CX0 3 "amount" 0 ["top", "bottom"] (fun _ zs => zs) (sp0 (spAmountX cA K))) (Qamount_0_bottom_top : FnG P w K mg base CX0 3 "amount" 0 ["bottom", "top"] sw2 (sp0 (spAmountX cA K))) (Qamount_1_ : FnG P w K mg base CX0 3 "amount" 1 [] (fun vs _ => vs ++ [.int 1]) (sp0 (spAmountX cA K))) (Qamount_0_top : FnG P w K mg base CX0 3 "amount" 0 ["top"] (fun _ zs => zs ++ [.int 1]) (sp0 (spAmountX cA K))) (F_law_draw : Fn P w K mg base 1 "_law_draw" (spDraw K)) (F_law_of : Fn P w K mg base 2 "_law_of" (spOf K)) (F_law_count : Fn P w K mg base 3 "_law_count" (spCount K)) (F_law_pair : Fn P w K mg base 1 "_law_pair" (spPair K)) (F_law_like : Fn P w K mg base 5 "_law_like" (spLike K 5)) : Fn P w K mg base 6 "_law_made_so" (spMadeSo P1 P2 K) := by
  refine fn_defC F hm hC1 c_law_made_so (fun vs H Q E h => ?_) (fun _ _ _ _ _ _ us hl => match us, hl with | [_], _ => rfl) (fun A outer s H vs Q E hr h => ?_)
  · obtain ⟨b, rfl, _⟩ := h
    rfl
  · obtain ⟨b, rfl, hb, hT, k⟩ := h
    have nd := c_law_made_so.nd
    refine ⟨_, (pss_cons (ps_set (i := 1) nd rfl (by first | exact Or.inl rfl | exact Or.inr rfl) (pe_op op_add pe_int (pe_fn F_law_draw (hr.mono (by decide)) (pa_cons (pv 0) (pa_cons pe_int pa_nil)))))
      (pss_mid (ps_set (i := 2) nd rfl (by first | exact Or.inl rfl | exact Or.inr rfl) (pe_fn F_law_of (hr.mono (by decide)) (pa_cons (pv 0) (pa_cons (pe_lst (pa_cons (pe_fn F_law_count (hr.mono (by decide)) (pa_cons (pv 0) pa_nil)) (pa_cons (pe_op op_mulW (pe_fn F_law_draw (hr.mono (by decide)) (pa_cons (pv 0) (pa_cons pe_int pa_nil))) (pv 1)) pa_nil))) pa_nil))))
      (pss_mid (ps_set (i := 3) nd rfl (by first | exact Or.inl rfl | exact Or.inr rfl) (pe_callB (call_max2 rfl) (by rfl) T.max (by decide +kernel) (pa_cons pe_int (pa_cons (pe_fn F_law_of (hr.mono (by decide)) (pa_cons (pv 0) (pa_cons (pe_lst (pa_cons (pe_fn F_law_count (hr.mono (by decide)) (pa_cons (pv 0) pa_nil)) (pa_cons (pe_op op_mulW (pe_op op_add pe_int (pe_fn F_law_draw (hr.mono (by decide)) (pa_cons (pv 0) (pa_cons pe_int pa_nil)))) (pv 1)) pa_nil))) pa_nil))) pa_nil))))
      (pss_cons (ps_set (i := 4) nd rfl (by first | exact Or.inl rfl | exact Or.inr rfl) (pe_fn F_law_pair (hr.mono (by decide)) (pa_cons (pv 2) (pa_cons (pv 3) pa_nil))))
      (pss_mid (ps_if (pt_not (pt_val (pe_fn F_law_like (hr.mono (by decide)) (pa_cons (pe_lst (pa_cons (pe_g Qamount_2_ (hr.mono (by decide)) pass0 (pa_cons (pv 2) (pa_cons (pv 3) pa_nil))) (pa_cons (pe_gK Qamount_0_top_bottom (hr.mono (by decide)) pass0 (pk_cons (pv 2) (pk_cons (pv 3) pk_nil))) (pa_cons (pe_gK Qamount_0_bottom_top (hr.mono (by decide)) pass0 (pk_cons (pv 3) (pk_cons (pv 2) pk_nil))) (pa_cons (pe_g Qamount_1_ (hr.mono (by decide)) pass0 (pa_cons (pv 2) pa_nil)) (pa_cons (pe_gK Qamount_0_top (hr.mono (by decide)) pass0 (pk_cons (pv 2) pk_nil)) pa_nil)))))) (pa_cons (pe_lst (pa_cons (pv 4) (pa_cons (pv 4) (pa_cons (pv 4) (pa_cons (pe_tup (pa_cons (pv 2) (pa_cons pe_int pa_nil))) (pa_cons (pe_tup (pa_cons (pv 2) (pa_cons pe_int pa_nil))) pa_nil)))))) pa_nil)))))
        (pss_one (ps_ret pe_bl))
        pss_nil)
      (pss_mid (ps_set (i := 5) nd rfl (by first | exact Or.inl rfl | exact Or.inr rfl) (pe_lst (pa_cons pe_non (pa_cons pe_bl (pa_cons pe_bl (pa_cons (pe_un un_neg pe_int) (pa_cons (pe_un un_neg pe_int) (pa_cons pe_int (pa_cons pe_int (pa_cons pe_int (pa_cons pe_str (pa_cons pe_str (pa_cons (pe_tup (pa_cons pe_int (pa_cons pe_int pa_nil))) (pa_cons (pe_lst (pa_cons pe_int pa_nil)) (pa_cons (pe_tup pa_nil) (pa_cons (pv 2) (pa_cons (pv 3) pa_nil)))))))))))))))))
      (pss_cons (ps_set (i := 6) nd rfl (by first | exact Or.inl rfl | exact Or.inr rfl) (pe_fn F_law_of (hr.mono (by decide)) (pa_cons (pv 0) (pa_cons (pv 5) pa_nil))))
      (pss_cons (ps_set (i := 7) nd rfl (by first | exact Or.inl rfl | exact Or.inr rfl) (pe_fn F_law_of (hr.mono (by decide)) (pa_cons (pv 0) (pa_cons (pv 5) pa_nil))))
      (pss_mid (ps_if (PW.pt (pw_or (pt_val (pe_callB call_isi (by rfl) T.isinstance (by decide +kernel) (pa_cons (pv 6) (pa_cons (pe_bltn (v := .ty "bool") (by rfl) T.bool (by decide +kernel) rfl) pa_nil)))) (pw_or (pt_not (pt_val (pe_callB call_isi (by rfl) T.isinstance (by decide +kernel) (pa_cons (pv 6) (pa_cons (pe_bltn (v := .ty "int") (by rfl) T.int (by decide +kernel) rfl) pa_nil))))) (pw_or1 (pt_cmpR op_lt (pv 6) pe_int (nomark _))))))
        (pss_one (ps_set (i := 4) nd rfl (by first | exact Or.inl rfl | exact Or.inr rfl) (pe_lst (pa_cons pe_str (pa_cons (pv 6) pa_nil)))))
        (pss_one (ps_if (PW.pt (pw_or (pt_val (pe_callB call_isi (by rfl) T.isinstance (by decide +kernel) (pa_cons (pv 7) (pa_cons (pe_bltn (v := .ty "bool") (by rfl) T.bool (by decide +kernel) rfl) pa_nil)))) (pw_or (pt_not (pt_val (pe_callB call_isi (by rfl) T.isinstance (by decide +kernel) (pa_cons (pv 7) (pa_cons (pe_bltn (v := .ty "int") (by rfl) T.int (by decide +kernel) rfl) pa_nil))))) (pw_or1 (pt_cmpR op_lt (pv 7) pe_int (nomark _))))))
          (pss_one (ps_set (i := 4) nd rfl (by first | exact Or.inl rfl | exact Or.inr rfl) (pe_lst (pa_cons pe_str (pa_cons (pv 7) pa_nil)))))
          (pss_one (ps_set (i := 4) nd rfl (by first | exact Or.inl rfl | exact Or.inr rfl) (pe_lst (pa_cons pe_str (pa_cons (pe_fn F_law_pair (hr.mono (by decide)) (pa_cons (pv 6) (pa_cons (pv 7) pa_nil))) pa_nil))))))))
      (pss_one (ps_ret (pe_fn F_law_like (hr.mono (by decide)) (pa_cons (pe_lst (pa_cons (pe_lamT L_law_told (k := 3) (T := CT2 P1 P2) TBc1 rfl ct2_m1 (ct2_1 hP) (hr.mono (by decide)) (lamS_by (sc := defScope s_law_made_so) (by decide +kernel)) rfl (fun _ _ _ _ _ => rfl) (fun A outer s H E f c hr => (pe_g Lamount_2_ (hr.mono (by decide)) pass_lam (pa_cons (pv 6) (pa_cons (pv 7) pa_nil))))) (pa_cons (pe_lamT L_law_told (k := 3) (T := CT2 P1 P2) TBc1 rfl ct2_m1 (ct2_1 hP) (hr.mono (by decide)) (lamS_by (sc := defScope s_law_made_so) (by decide +kernel)) rfl (fun _ _ _ _ _ => rfl) (fun A outer s H E f c hr => (pe_gK Lamount_0_bottom_top (hr.mono (by decide)) pass_lam (pk_cons (pv 7) (pk_cons (pv 6) pk_nil))))) pa_nil))) (pa_cons (pe_lst (pa_cons (pv 4) (pa_cons (pv 4) pa_nil))) pa_nil)))))))))))))), ?_⟩
    show (_ : TS) _ [some _, none, none, none, none, none, none, none] _
    try dsimp only [cxOf, Cx.nox]
    walk_at "go"
    refine k_draw hb (by decide) (by decide) fun x1 H1 l1 u1 b1 n1 => ?_
    obtain ⟨lot, elot⟩ : ∃ lot : Nat, 1 + x1 = (lot : Int) := ⟨(1 + x1).toNat, by omega⟩
    have T1 := Tabs.bg hb n1 hT
    walk_at "go"
    rw [elot]
    refine r_mid (fun σ' H' => ∃ a : Nat, σ' = [some (V.ref b.a), some (.int (lot : Int)), some (.int (a : Int)), none, none, none, none, none] ∧ a ≤ 1000000000 ∧ BagAt K H' b ∧ Ext [b.a] H1 H') ?_ ?_
    · walk_at "go"
      refine ⟨b, rfl, b1, fun x2 H2 l2 u2 b2 n2 => ?_⟩
      walk_at "go"
      refine k_draw b2 (by decide) (by decide) fun x3 H3 l3 u3 b3 n3 => ?_
      walk_at "go"
      have m0 : CMulW x3 (lot : Int) := cmul (m := 12) (n := 12) (by omega) (by omega) (by decide) (by decide) (by decide)
      walk_at "go"
      have p0 : 0 ≤ x3 * (lot : Int) := Int.mul_nonneg l3 (by omega)
      have p9 : x3 * (lot : Int) ≤ 1000 * 40 := Int.mul_le_mul (by omega) (by omega) (by omega) (by omega)
      rename_i l hl
      refine of_all (Pv := fun v => ∃ x : Int, v = .int x ∧ 0 ≤ x ∧ x ≤ 1000000000) (b3.new hl) lstS (b3.ne hl) (Nat.succ_pos _) (by simp) (fun v hv => ?_) fun v H4 hv b4 n4 => ?_
      · simp only [List.mem_cons, List.not_mem_nil, or_false] at hv
        rcases hv with rfl | rfl <;> exact ⟨_, rfl, by omega, by omega⟩
      · obtain ⟨x, rfl, h0, h9⟩ := hv
        obtain ⟨a, rfl⟩ : ∃ a : Nat, x = (a : Int) := ⟨x.toNat, by omega⟩
        walk_at "go"
        exact ⟨a, rfl, by omega, b4, n2.trans (n3.trans ((Ext.refl.new hl).trans n4))⟩
    · rintro σ' H5 ⟨a, rfl, ha, b5, n5⟩
      refine r_mid (fun σ' H' => ∃ c : Nat, σ' = [some (V.ref b.a), some (.int (lot : Int)), some (.int (a : Int)), some (.int (c : Int)), none, none, none, none] ∧ 0 < c ∧ c ≤ 1000000000 ∧ BagAt K H' b ∧ Ext [b.a] H5 H') ?_ ?_
      · walk_at "go"
        refine ⟨b, rfl, b5, fun x2 H2 l2 u2 b2 n2 => ?_⟩
        walk_at "go"
        refine k_draw b2 (by decide) (by decide) fun x3 H3 l3 u3 b3 n3 => ?_
        walk_at "go"
        have m0 : CMulW (1 + x3) (lot : Int) := cmul (m := 12) (n := 12) (by omega) (by omega) (by decide) (by decide) (by decide)
        walk_at "go"
        have p0 : 0 ≤ (1 + x3) * (lot : Int) := Int.mul_nonneg (by omega) (by omega)
        have p9 : (1 + x3) * (lot : Int) ≤ 1000 * 40 := Int.mul_le_mul (by omega) (by omega) (by omega) (by omega)
        rename_i l hl
        refine of_all (Pv := fun v => ∃ x : Int, v = .int x ∧ 0 ≤ x ∧ x ≤ 1000000000) (b3.new hl) lstS (b3.ne hl) (Nat.succ_pos _) (by simp) (fun v hv => ?_) fun v H4 hv b4 n4 => ?_
        · simp only [List.mem_cons, List.not_mem_nil, or_false] at hv
          rcases hv with rfl | rfl <;> exact ⟨_, rfl, by omega, by omega⟩
        · obtain ⟨x, rfl, h0, h9⟩ := hv
          walk_at "go"
          obtain ⟨c, hc, c0, c9⟩ : ∃ c : Nat, (if x > 1 then x else 1) = (c : Int) ∧ 0 < c ∧ c ≤ 1000000000 := by
            by_cases hx : x > 1
            · exact ⟨x.toNat, by rw [if_pos hx]; omega, by omega, by omega⟩
            · exact ⟨1, by rw [if_neg hx]; rfl, by omega, by omega⟩
          rw [hc]
          exact ⟨c, rfl, c0, c9, b4, n2.trans (n3.trans ((Ext.refl.new hl).trans n4))⟩
      · rintro σ' H6 ⟨c, rfl, c0, c9, b6, n6⟩
        have big : ∀ n : Nat, n ≤ 1000000000 → n < 2 ^ 4000 := fun n h => Nat.lt_of_lt_of_le (show n < 2 ^ 40 by omega) (Nat.pow_le_pow_right (by decide) (by decide))
        have big2 : ∀ n : Nat, n ≤ 1000000000 → n < 2 ^ 8900 := fun n h => Nat.lt_of_lt_of_le (show n < 2 ^ 40 by omega) (Nat.pow_le_pow_right (by decide) (by decide))
        have T6 := Tabs.bg b5 n6 (Tabs.bg b1 n5 T1)
        have n06 := n1.trans (n5.trans n6)
        clear T1 hT
        walk_at "go"
        refine ⟨a, c, rfl, c0, big2 a ha, big2 c c9, fun vd H7 e7 ad => ?_⟩
        walk_at "go"
        refine r_mid (fun σ' H' => σ' = [some (V.ref b.a), some (.int (lot : Int)), some (.int (a : Int)), some (.int (c : Int)), some vd, none, none, none] ∧ Ext [] H7 H') ?_ ?_
        · walk_at "go"
          refine ⟨rfl, rfl, ?_⟩
          refine k_am2 c0 (big c c9) fun u1 H8 e8 a8 => ?_
          walk_at "go"
          refine ⟨rfl, rfl, ?_⟩
          refine k_am2 c0 (big c c9) fun u2 H9 e9 a9 => ?_
          walk_at "go"
          refine ⟨rfl, rfl, ?_⟩
          refine k_am2 c0 (big c c9) fun u3 H10 e10 a10 => ?_
          walk_at "go"
          refine ⟨rfl, rfl, ?_⟩
          refine k_am2 (b := 1) (by decide) (big 1 (by decide)) fun u4 H11 e11 a11 => ?_
          walk_at "go"
          refine ⟨rfl, rfl, ?_⟩
          refine k_am2 (b := 1) (by decide) (big 1 (by decide)) fun u5 H12 e12 a12 => ?_
          walk_at "go"
          refine k_like (ams_eqd (xs := [u1, u2, u3, u4, u5]) (qs := [mkRat (a : Int) c, mkRat (a : Int) c, mkRat (a : Int) c, mkRat (a : Int) 1, mkRat (a : Int) 1]) (by walk_at "sq") (by walk_at "sq") (Ams.cons (by walk_at "am") (Ams.cons (by walk_at "am") (Ams.cons (by walk_at "am") (Ams.cons (by walk_at "am") (Ams.cons (by walk_at "am") Ams.nil))))) (Ams.cons (by walk_at "am") (Ams.cons (by walk_at "am") (Ams.cons (by walk_at "am") (Ams.cons (am_1 (by walk_at "sq")) (Ams.cons (am_1 (by walk_at "sq")) Ams.nil))))) (by simp) 2) fun H13 e13 => ?_
          walk_at "run"
          exact ⟨rfl, by walk_at "ext"⟩
        · rintro σ' H14 ⟨rfl, e14⟩
          have b14 := (b6.x0 e7).x0 e14
          have T14 := Tabs.x0 (Tabs.x0 T6 e7) e14
          have n014 : Ext [b.a] H H14 := n06.trans (e7.trans e14).of0
          refine r_mid (fun σ' H' => ∃ (l : Addr) (xs : List V) (ds : List PyData), σ' = [some (V.ref b.a), some (.int (lot : Int)), some (.int (a : Int)), some (.int (c : Int)), some vd, some (.ref l), none, none] ∧ H' l = some (.lst xs) ∧ b.a ≠ l ∧ DqAll K [b.a] H' xs ds ∧ (∀ d ∈ ds, okA d) ∧ xs.length = 15 ∧ Ext [] H14 H') ?_ ?_
          · walk_at "go"
            refine ⟨_, _, [.none, .bool true, .bool false, .int (-1), .int (-7), .int 0, .int 1, .int 3, .str (Str.ofString "3"), .str (Str.ofString ""), .tuple [.int 3, .int 1], .list [.int 3], .tuple [], .int (a : Int), .int (c : Int)], rfl, upd_same, ?_, ?_, ?_, rfl, by walk_at "ext"⟩
            · exact BagAt.ne' (K := K) (by assumption) (by walk_at "bag")
            · walk_at "dqs"
            · intro d hd
              simp only [List.mem_cons, List.not_mem_nil, or_false] at hd
              rcases hd with rfl | rfl | rfl | rfl | rfl | rfl | rfl | rfl | rfl | rfl | rfl | rfl | rfl | rfl | rfl <;> first | exact okA_i (by omega) | exact ⟨by decide +kernel, fun b e => nomatch e⟩
          · rintro σ' H15 ⟨l, xs, ds, rfl, hl, nl, hds, hok, lx, e15⟩
            have b15 := b14.x0 e15
            have T15 := Tabs.x0 T14 e15
            walk_at "go"
            refine of_dqP (Pd := okA) b15 (.inl (.inl hl)) nl hds hok (by omega) (by omega) fun vx dx H16 hx ox b16 n16 => ?_
            walk_at "go"
            have hl16 := n16 _ _ hl (by simpa using nl.symm)
            refine of_dqP (Pd := okA) b16 (.inl (.inl hl16)) nl (hds.b b15 n16) hok (by omega) (by omega) fun vy dy H17 hy oy b17 n17 => ?_
            have hxp := (hx.b b16 n17).dp
            have hyp := hy.dp
            have T17 := Tabs.bg b16 n17 (Tabs.bg b15 n16 T15)
            have n017 := n014.trans (e15.of0.trans (n16.trans n17))
            clear hx hy hds T15 T14 T6 hl hl16
            walk_at "go"
            refine r_mid (fun σ' H' => ∃ dv, σ' = [some (V.ref b.a), some (.int (lot : Int)), some (.int (a : Int)), some (.int (c : Int)), some dv, some (.ref l), some vx, some vy] ∧ TdIs K H' dv (oA dx dy vx vy) ∧ Ext [] H17 H') ?_ ?_
            · cases hxp with
              | non => walk_at "run"; exact ⟨_, rfl, td_A1 rfl lstS, by walk_at "ext"⟩
              | bl b => walk_at "run"; exact ⟨_, rfl, td_A1 rfl lstS, by walk_at "ext"⟩
              | str z => walk_at "run"; exact ⟨_, rfl, td_A1 rfl lstS, by walk_at "ext"⟩
              | lst h g => walk_at "run"; exact ⟨_, rfl, td_A1 rfl lstS, by walk_at "ext"⟩
              | tup h g => walk_at "run"; exact ⟨_, rfl, td_A1 rfl lstS, by walk_at "ext"⟩
              | int i =>
                walk_at "run"
                refine r_dec (fun hi => ?_) (fun hi => ?_)
                · walk_at "run"
                  exact ⟨_, rfl, td_A1 (decide_eq_false (by omega)) lstS, by walk_at "ext"⟩
                · have e1 : nnD (.int i) = true := decide_eq_true (by omega)
                  cases hyp with
                  | non => walk_at "run"; exact ⟨_, rfl, td_A2 e1 rfl lstS, by walk_at "ext"⟩
                  | bl b => walk_at "run"; exact ⟨_, rfl, td_A2 e1 rfl lstS, by walk_at "ext"⟩
                  | str z => walk_at "run"; exact ⟨_, rfl, td_A2 e1 rfl lstS, by walk_at "ext"⟩
                  | lst h g => walk_at "run"; exact ⟨_, rfl, td_A2 e1 rfl lstS, by walk_at "ext"⟩
                  | tup h g => walk_at "run"; exact ⟨_, rfl, td_A2 e1 rfl lstS, by walk_at "ext"⟩
                  | int j =>
                    walk_at "run"
                    refine r_dec (fun hj => ?_) (fun hj => ?_)
                    · walk_at "run"
                      exact ⟨_, rfl, td_A2 e1 (decide_eq_false (by omega)) lstS, by walk_at "ext"⟩
                    · obtain ⟨x, rfl⟩ : ∃ x : Nat, i = (x : Int) := ⟨i.toNat, by omega⟩
                      obtain ⟨y, rfl⟩ : ∃ y : Nat, j = (y : Int) := ⟨j.toNat, by omega⟩
                      have p49 : (2 : Nat) ^ 4000 ≤ 2 ^ 8900 := Nat.pow_le_pow_right (by decide) (by decide)
                      walk_at "run"
                      refine ⟨x, y, rfl, by omega, Nat.lt_of_lt_of_le (ox.2 x rfl) p49, Nat.lt_of_lt_of_le (oy.2 y rfl) p49, fun vq H18 e18 aq => ?_⟩
                      walk_at "run"
                      exact ⟨_, rfl, td_A3 (by omega) lstS (by walk_at "am"), by walk_at "ext"⟩
            · rintro σ' H20 ⟨dv, rfl, tv, e20⟩
              have T20 := Tabs.x0 T17 e20
              have hx20 := dpx0 e20 hxp
              have hy20 := dpx0 e20 hyp
              have b20 := b17.x0 e20
              walk_at "go"
              refine k_told T20 fun H21 x21 T21 => ?_
              walk_at "go"
              refine ⟨rfl, rfl, k_tA (dpe x21 hx20) (dpe x21 hy20) oy.2 fun r1 H22 e22 t22 => ?_⟩
              walk_at "go"
              refine k_told (Tabs.x0 T21 e22) fun H23 x23 T23 => ?_
              have x203 := x21.trans ((extN_of e22).trans x23)
              walk_at "go"
              refine ⟨rfl, rfl, k_tA (dpe x203 hx20) (dpe x203 hy20) oy.2 fun r2 H24 e24 t24 => ?_⟩
              have x204 := x203.trans (extN_of e24)
              have t2 := (t22.e x23).x0 e24
              have tv4 := tv.e x204
              have hx4 := dpe x204 hx20
              have hy4 := dpe x204 hy20
              walk_at "go"
              refine k_like (list2_eqd (n := 3) (lstN lstS (by assumption)) lstS (td_eqd (TdIs.x0 (by walk_at "ext") t2) (TdIs.x0 (by walk_at "ext") tv4) 1 (oA_v (dpx0 (by walk_at "ext") hx4) (dpx0 (by walk_at "ext") hy4) ox.1 oy.1 1)) (td_eqd (TdIs.x0 (by walk_at "ext") t24) (TdIs.x0 (by walk_at "ext") tv4) 1 (oA_v (dpx0 (by walk_at "ext") hx4) (dpx0 (by walk_at "ext") hy4) ox.1 oy.1 1))) fun H25 e25 => ?_
              have e245 : Ext [] H24 H25 := by walk_at "ext"
              exact k H25 ((b20.e x204).x0 e245) (Tabs.x0 (Tabs.x0 T23 e24) e245) ((ExtT.of (n017.trans e20.of0)).trans ((ExtT.n x204).trans (ExtT.of e245.of0)))
end
end Yk

set_option maxHeartbeats 8000000
namespace Yk
open PySem PySem.Spec PyProof.Rows L2 TL LamX

/-! The law. -/
section
variable {P : Program} {w : World} {K : PySem.W.Frag} {mg : Str → Option Value} {base : Heap} {f : Addr} {fd : FuncData}
def spLaw00 (P1 P2 : Addr) (K : PySem.W.Frag) : Sp := fun vs H Q _ => ∃ (a : Addr) (ns : List Int), vs = [.ref a] ∧ SqL K H a (ns.map V.int) ∧ ns.length ≤ 63 ∧ H P1 = some (.tbl #[]) ∧ H P2 = some (.tbl #[]) ∧ ∀ H', Q (.bl true) H'
abbrev s_law : Stmt := top 59
theorem c_law : FnScope ["_law_script", "_law_bag_here", "_law_turn", "_law_p", "_law_q", "_law_r", "_law_s"] ["_law_script"] (defScope s_law) := ⟨rfl, rfl, rfl, by decide +kernel, rfl, by decide +kernel, by decide +kernel⟩
theorem f_law (F : FunD K "law" "law" (defArgs s_law) (defBody s_law) (defScope s_law) [] [] f fd) (hm : mg "law" = some (.ref f)) {P1 P2 : Addr} (T : Bt mg) (TZ : ∃ z, mg "ZERO" = some (.ref z) ∧ ∀ H, SqT K H z [.int 0, .int 1]) (TO : ∃ z, mg "ONE" = some (.ref z) ∧ ∀ H, SqT K H z [.int 1, .int 1]) (TT : ∃ z, mg "TOP" = some (.ref z) ∧ ∀ H, SqT K H z [.int 1000, .int 1]) (F_law_bag : Fn P w K mg base 1 "_law_bag" (spBag K)) (F_law_like : Fn P w K mg base 5 "_law_like" (spLike K 5)) (F_law_amount : Fn P w K mg base 4 "_law_amount" (spAmt K)) (F_law_of : Fn P w K mg base 2 "_law_of" (spOf K)) (F_law_made_so : Fn P w K mg base 6 "_law_made_so" (spMadeSo P1 P2 K)) (F_law_two_so : Fn P w K mg base 6 "_law_two_so" (spTwo P1 P2 K)) (F_law_more_so : Fn P w K mg base 6 "_law_more_so" (spMoreSo K)) (F_law_text_so : Fn P w K mg base 6 "_law_text_so" (spTextSo K)) (F_law_kinds_so : Fn P w K mg base 6 "_law_kinds_so" (spTextSo K)) : FnOk P w K mg base CX0 7 f fd ["_law_script"] (spLaw00 P1 P2 K) := by
  refine ok_def F c_law (fun vs H Q E h => ?_) (fun cdv A outer s H vs Q E hr h => ?_)
  · obtain ⟨a, ns, rfl, _⟩ := h
    rfl
  · obtain ⟨a, ns, rfl, hl, h63, t1, t2, k⟩ := h
    have nd := c_law.nd
    obtain ⟨z, mz, TZ⟩ := TZ; obtain ⟨oo, moo, TO⟩ := TO; obtain ⟨tz, mtz, TT⟩ := TT
    refine ⟨_, (pss_cons (ps_set (i := 1) nd rfl (by first | exact Or.inl rfl | exact Or.inr rfl) (pe_fn F_law_bag (hr.mono (by decide)) (pa_cons (pv 0) pa_nil)))
      (pss_mid (ps_if (pt_not (pt_val (pe_fn F_law_like (hr.mono (by decide)) (pa_cons (pe_lst (pa_cons (pe_glob (v := .ref z) rfl mz rfl) (pa_cons (pe_glob (v := .ref oo) rfl moo rfl) (pa_cons (pe_glob (v := .ref tz) rfl mtz rfl) pa_nil)))) (pa_cons (pe_lst (pa_cons (pe_tup (pa_cons pe_int (pa_cons pe_int pa_nil))) (pa_cons (pe_tup (pa_cons pe_int (pa_cons pe_int pa_nil))) (pa_cons (pe_tup (pa_cons pe_int (pa_cons pe_int pa_nil))) pa_nil)))) pa_nil)))))
        (pss_one (ps_ret pe_bl))
        pss_nil)
      (pss_cons (ps_for PassesOwn.never rfl (pi_range1 rfl T.range (pa_cons pe_int pa_nil)) (pg_name (i := 2) nd rfl (by first | exact Or.inl rfl | exact Or.inr rfl))
        (pss_cons (ps_set (i := 3) nd rfl (by first | exact Or.inl rfl | exact Or.inr rfl) (pe_fn F_law_amount (hr.mono (by decide)) (pa_cons (pv 1) pa_nil)))
        (pss_cons (ps_set (i := 4) nd rfl (by first | exact Or.inl rfl | exact Or.inr rfl) (pe_fn F_law_of (hr.mono (by decide)) (pa_cons (pv 1) (pa_cons (pe_lst (pa_cons (pe_fn F_law_amount (hr.mono (by decide)) (pa_cons (pv 1) pa_nil)) (pa_cons (pe_fn F_law_amount (hr.mono (by decide)) (pa_cons (pv 1) pa_nil)) (pa_cons (pv 3) pa_nil)))) pa_nil))))
        (pss_cons (ps_set (i := 5) nd rfl (by first | exact Or.inl rfl | exact Or.inr rfl) (pe_fn F_law_amount (hr.mono (by decide)) (pa_cons (pv 1) pa_nil)))
        (pss_cons (ps_set (i := 6) nd rfl (by first | exact Or.inl rfl | exact Or.inr rfl) (pe_fn F_law_of (hr.mono (by decide)) (pa_cons (pv 1) (pa_cons (pe_lst (pa_cons (pe_fn F_law_amount (hr.mono (by decide)) (pa_cons (pv 1) pa_nil)) (pa_cons (pe_fn F_law_amount (hr.mono (by decide)) (pa_cons (pv 1) pa_nil)) (pa_cons (pv 4) pa_nil)))) pa_nil))))
        (pss_cons (ps_if (PW.pt (pw_or (pt_not (pt_val (pe_fn F_law_made_so (hr.mono (by decide)) (pa_cons (pv 1) pa_nil)))) (pw_or (pt_not (pt_val (pe_fn F_law_two_so (hr.mono (by decide)) (pa_cons (pv 3) (pa_cons (pv 4) pa_nil))))) (pw_or (pt_not (pt_val (pe_fn F_law_two_so (hr.mono (by decide)) (pa_cons (pv 5) (pa_cons (pv 4) pa_nil))))) (pw_or1 (pt_not (pt_val (pe_fn F_law_more_so (hr.mono (by decide)) (pa_cons (pv 3) (pa_cons (pv 4) (pa_cons (pv 5) (pa_cons (pv 6) pa_nil))))))))))))
          (pss_one (ps_ret pe_bl))
          pss_nil)
        (pss_one (ps_if (PW.pt (pw_or (pt_not (pt_val (pe_fn F_law_text_so (hr.mono (by decide)) (pa_cons (pv 1) (pa_cons (pv 3) pa_nil))))) (pw_or (pt_not (pt_val (pe_fn F_law_kinds_so (hr.mono (by decide)) (pa_cons (pv 1) (pa_cons (pv 4) pa_nil))))) (pw_or1 (pt_not (pt_val (pe_fn F_law_kinds_so (hr.mono (by decide)) (pa_cons (pv 1) (pa_cons (pv 5) pa_nil)))))))))
          (pss_one (ps_ret pe_bl))
          pss_nil))))))))
      (pss_one (ps_ret pe_bl))))), ?_⟩
    show (_ : TS) _ [some _, none, none, none, none, none, none] _
    try dsimp only [cxOf, Cx.nox]
    walk_at "go"
    refine ⟨a, ns, rfl, hl, h63, fun b H1 hn e1 hb1 => ?_⟩
    have T1 : Tabs (CT2 P1 P2) H1 := fun p hp => by
      simp only [CT2, List.mem_cons, List.not_mem_nil, or_false] at hp
      rcases hp with rfl | rfl
      · exact TabS.nil (e1 _ _ t1 fun z => nomatch z)
      · exact TabS.nil (e1 _ _ t2 fun z => nomatch z)
    walk_at "go"
    refine r_mid (fun σ' H' => σ' = [some (V.ref a), some (V.ref b.a), none, none, none, none, none] ∧ Ext [] H1 H') ?_ ?_
    · walk_at "go"
      refine k_like (ams_eqd (xs := [.ref z, .ref oo, .ref tz]) (qs := [0, 1, 1000]) (by walk_at "sq") lstS (Ams.cons ⟨_, rfl, TZ _⟩ (Ams.cons ⟨_, rfl, TO _⟩ (Ams.cons ⟨_, rfl, TT _⟩ Ams.nil))) (Ams.cons ⟨_, rfl, by walk_at "sq"⟩ (Ams.cons ⟨_, rfl, by walk_at "sq"⟩ (Ams.cons ⟨_, rfl, by walk_at "sq"⟩ Ams.nil))) (by simp) 2) fun H2 e2 => ?_
      walk_at "run"
      exact ⟨rfl, by walk_at "ext"⟩
    · rintro σ' H2 ⟨rfl, e2⟩
      have b2 := hb1.x0 e2
      have T2 := Tabs.x0 T1 e2
      walk_at "go"
      refine r_for ?_
      walk_at "go"
      refine ⟨_, rfl, by omega, by omega, ?_⟩
      refine r_loopR (fun i σ H1 => ∃ (o2 o3 o4 o5 o6 : Option V), BagAt K H1 b ∧ Tabs (CT2 P1 P2) H1 ∧ σ = [some (V.ref a), some (V.ref b.a), o2, o3, o4, o5, o6]) ⟨_, _, _, _, _, b2, T2, rfl⟩ ?_ ?_
      · rintro i σ H0 hi ⟨o2, o3, o4, o5, o6, hb0, T0, rfl⟩
        walk_at "go"
        refine ⟨b, rfl, hb0, fun v1 q1 H3 a1 p1 s1 b3 n3 => ?_⟩
        walk_at "go"
        refine ⟨b, rfl, b3, fun v2 q2 H4 a2 p2 s2 b4 n4 => ?_⟩
        walk_at "go"
        refine ⟨b, rfl, b4, fun v3 q3 H5 a3 p3 s3 b5 n5 => ?_⟩
        walk_at "go"
        rename_i l hl5
        have e5 : Ext [] H5 (upd H5 l (.lst [v2, v3, v1])) := Ext.refl.new hl5
        refine of_am (qs := [q2, q3, q1]) (b5.new hl5) lstS (b5.ne hl5) (Ams.cons ((a2.b b4 n5).x0 e5) (Ams.cons (a3.x0 e5) (Ams.cons (((a1.b b3 n4).b b4 n5).x0 e5) Ams.nil))) (Nat.zero_lt_succ _) (by simp) fun v4 q4 H6 h4 a4 b6 n6 => ?_
        have ps4 : 0 ≤ q4 ∧ Sz 114 q4 := by
          simp only [List.mem_cons, List.not_mem_nil, or_false] at h4
          rcases h4 with rfl | rfl | rfl <;> exact ⟨by assumption, by assumption⟩
        have n36 : Ext [b.a] H3 H6 := n4.trans (n5.trans (e5.of0.trans n6))
        have c1 := a1.b b3 n36
        clear a1 a2 a3 e5 n4 n5 n6 hl5 h4
        walk_at "go"
        refine ⟨b, rfl, b6, fun v5 q5 H7 a5 p5 s5 b7 n7 => ?_⟩
        walk_at "go"
        refine ⟨b, rfl, b7, fun v6 q6 H8 a6 p6 s6 b8 n8 => ?_⟩
        walk_at "go"
        refine ⟨b, rfl, b8, fun v7 q7 H9 a7 p7 s7 b9 n9 => ?_⟩
        walk_at "go"
        rename_i l2 hl9
        have e9 : Ext [] H9 (upd H9 l2 (.lst [v6, v7, v4])) := Ext.refl.new hl9
        refine of_am (qs := [q6, q7, q4]) (b9.new hl9) lstS (b9.ne hl9) (Ams.cons ((a6.b b8 n9).x0 e9) (Ams.cons (a7.x0 e9) (Ams.cons ((((a4.b b6 n7).b b7 n8).b b8 n9).x0 e9) Ams.nil))) (Nat.zero_lt_succ _) (by simp) fun v8 q8 H10 h8 a8 b10 n10 => ?_
        have ps8 : 0 ≤ q8 ∧ Sz 114 q8 := by
          simp only [List.mem_cons, List.not_mem_nil, or_false] at h8
          rcases h8 with rfl | rfl | rfl
          · exact ⟨by assumption, by assumption⟩
          · exact ⟨by assumption, by assumption⟩
          · exact ps4
        have n710 : Ext [b.a] H7 H10 := n8.trans (n9.trans (e9.of0.trans n10))
        have n610 : Ext [b.a] H6 H10 := n7.trans n710
        have d1 := c1.b b6 n610
        have d4 := a4.b b6 n610
        have d5 := a5.b b7 n710
        have T10 := Tabs.bg b6 n610 (Tabs.bg b3 n36 (Tabs.bg hb0 n3 T0))
        clear c1 a4 a5 a6 a7 e9 n8 n9 n10 hl9 h8 n7 n710 n610 n36 n3
        obtain ⟨p4, s4⟩ := ps4
        obtain ⟨p8, s8⟩ := ps8
        walk_at "go"
        refine ⟨b, rfl, b10, T10, fun H11 b11 T11 x11 => ?_⟩
        have f1 := d1.t b10 x11
        have f4 := d4.t b10 x11
        have f5 := d5.t b10 x11
        have f8 := a8.t b10 x11
        walk_at "run"
        refine ⟨_, _, q1, q4, rfl, f1, f4, p1, p4, s1, s4, T11, fun H12 x12 T12 => ?_⟩
        walk_at "run"
        refine ⟨_, _, q5, q4, rfl, f5.e x12, f4.e x12, p5, p4, s5, s4, T12, fun H13 x13 T13 => ?_⟩
        have g1 := (f1.e x12).e x13
        have g4 := (f4.e x12).e x13
        have g5 := (f5.e x12).e x13
        have g8 := (f8.e x12).e x13
        have b13 := (b11.e x12).e x13
        walk_at "run"
        refine ⟨_, _, _, _, q1, q4, q5, q8, rfl, g1, g4, g5, g8, ⟨p1, p4, p5, p8⟩, ⟨s1, s4, s5, s8⟩, fun H14 e14 => ?_⟩
        have b14 := b13.x0 e14
        have T14 := Tabs.x0 T13 e14
        walk_at "run"
        refine ⟨b, _, q1, rfl, b14, g1.x0 e14, p1, s1, fun H15 b15 n15 => ?_⟩
        walk_at "run"
        refine ⟨b, _, q4, rfl, b15, (g4.x0 e14).b b14 n15, p4, s4, fun H16 b16 n16 => ?_⟩
        walk_at "run"
        refine ⟨b, _, q5, rfl, b16, ((g5.x0 e14).b b14 n15).b b15 n16, p5, s5, fun H17 b17 n17 => ?_⟩
        walk_at "run"
        exact ⟨_, _, _, _, _, b17, Tabs.bg b16 n17 (Tabs.bg b15 n16 (Tabs.bg b14 n15 T14)), rfl⟩
      · rintro σ H1 ⟨o2, o3, o4, o5, o6, hb0, _, rfl⟩
        walk_at "go"
        exact k _
end
end Yk

set_option maxHeartbeats 0
namespace YkHead
open PySem PySem.Spec PyProof.Rows L2 Yk
theorem facts {P : Program} {w : World} {K : PySem.W.Frag} {h : Heap} {mg : Str → Option Value} {f : Addr} (X : K.In h) (G : h.Ns mainGlobals mg) (hfa : mg ("law" : Str) = some (.ref f)) (c0 : Hk.SaysTb fa fn tf ex h K) :
    ∃ fd : FuncData, (∀ (s : Shared) (v : Value), BindsTo s fd ⟨[v], []⟩ [("_law_script", v)]) ∧ ∀ base : Heap, K.In base → base.Ns mainGlobals mg → (∀ p ∈ [He.cT K ("_law_made_so", none), He.cT K ("_law_two_so", none)], LamX.TabB base mg p.1 p.2) → FnOk P w K mg base CX0 7 f fd ["_law_script"] (spLaw00 (He.cT K ("_law_made_so", none)).2 (He.cT K ("_law_two_so", none)).2 K) := by
  have c := c0.s
  have m : ex K = true := c.more
  unfold ex at m
  try simp only [Bool.and_eq_true] at m
  have T0 : Bt mg := ⟨(He.free_ok X G (c.fact 55 (f := .free "int") rfl)), (He.free_ok X G (c.fact 57 (f := .free "len") rfl)), (He.free_ok X G (c.fact 58 (f := .free "list") rfl)), (He.free_ok X G (c.fact 64 (f := .free "tuple") rfl)), (He.free_ok X G (c.fact 62 (f := .free "str") rfl)), (He.free_ok X G (c.fact 53 (f := .free "bool") rfl)), (He.free_ok X G (c.fact 59 (f := .free "max") rfl)), (He.free_ok X G (c.fact 60 (f := .free "min") rfl)), (He.free_ok X G (c.fact 51 (f := .free "all") rfl)), (He.free_ok X G (c.fact 52 (f := .free "any") rfl)), (He.free_ok X G (c.fact 63 (f := .free "sum") rfl)), (He.free_ok X G (c.fact 56 (f := .free "isinstance") rfl)), (He.free_ok X G (c.fact 65 (f := .free "zip") rfl)), (He.free_ok X G (c.fact 61 (f := .free "range") rfl)), (He.free_ok X G (c.fact 54 (f := .free "divmod") rfl))⟩
  have i_TEXT_DIGITS := He.int_ok X G (c.fact 66 (f := .int "TEXT_DIGITS" 400) rfl)
  have i_SMALL_BOTTOM := He.int_ok X G (c.fact 67 (f := .int "SMALL_BOTTOM" 12) rfl)
  have T1 : Bg mg := ⟨T0, PySem.W.mg_of X G (He.eqO_ok m.1.1.1.1.1.1.2)⟩
  have tup_ZERO : ∃ z, mg "ZERO" = some (.ref z) ∧ ∀ H, SqT K H z [.int 0, .int 1] := ⟨He.ga K "ZERO", PySem.W.mg_of X G (He.eqO_ok m.1.1.1.1.1.2), fun H => He.tupB_ok m.1.1.1.1.2 H⟩
  have tup_ONE : ∃ z, mg "ONE" = some (.ref z) ∧ ∀ H, SqT K H z [.int 1, .int 1] := ⟨He.ga K "ONE", PySem.W.mg_of X G (He.eqO_ok m.1.1.1.2), fun H => He.tupB_ok m.1.1.2 H⟩
  have tup_TOP : ∃ z, mg "TOP" = some (.ref z) ∧ ∀ H, SqT K H z [.int 1000, .int 1] := ⟨He.ga K "TOP", PySem.W.mg_of X G (He.eqO_ok m.1.2), fun H => He.tupB_ok m.2 H⟩
  have YBadAmount : Xc K mg "BadAmount" (He.ga K "BadAmount") := Xh.xcB_ok m.1.1.1.1.1.1.1.1.1.1.1.1.1.1.1.1.1.1 (He.glo_ok X G (c.fact 0 (f := .glo "BadAmount") rfl))
  have NBadAmount_value : PySem.W.findIn K (.ref (He.ga K "BadAmount")) "value" = some none := He.eqO_ok m.1.1.1.1.1.1.1.1.1.1.1.1.1.1.1.1.2
  have YShort : Xc K mg "Short" (He.ga K "Short") := Xh.xcB_ok m.1.1.1.1.1.1.1.1.1.1.1.1.1.1.1.2 (He.glo_ok X G (c.fact 1 (f := .glo "Short") rfl))
  have NShort_amount : PySem.W.findIn K (.ref (He.ga K "Short")) "amount" = some none := He.eqO_ok m.1.1.1.1.1.1.1.1.1.1.1.1.1.2
  have mBandError := (He.glo_ok X G (c.fact 2 (f := .glo "BandError") rfl))
  have eBadAmount_BandError := of_decide_eq_true m.1.1.1.1.1.1.1.1.1.1.1.1.2
  have eShort_BandError := of_decide_eq_true m.1.1.1.1.1.1.1.1.1.1.1.2
  have kBadAmount_BadAmount := of_decide_eq_true m.1.1.1.1.1.1.1.1.1.1.2
  have kShort_BadAmount := of_decide_eq_true m.1.1.1.1.1.1.1.1.1.2
  have kShort_Short := of_decide_eq_true m.1.1.1.1.1.1.1.1.2
  have hPne : (He.cT K ("_law_made_so", none)).2 ≠ (He.cT K ("_law_two_so", none)).2 := fun z => by
    have q := m.1.1.1.1.1.1.1.2
    rw [decide_eq_true z] at q
    cases q
  obtain ⟨d_added, D_added⟩ := c.def_ 8 (d := dD "_added" 20) rfl
  obtain ⟨d_product, D_product⟩ := c.def_ 11 (d := dD "_product" 23) rfl
  obtain ⟨d_times, D_times⟩ := c.def_ 9 (d := dD "times" 21) rfl
  obtain ⟨d_compare, D_compare⟩ := c.def_ 12 (d := dD "compare" 24) rfl
  obtain ⟨d_minus, D_minus⟩ := c.def_ 7 (d := dD "minus" 19) rfl
  obtain ⟨d_over, D_over⟩ := c.def_ 10 (d := dD "over" 22) rfl
  obtain ⟨d_plus, D_plus⟩ := c.def_ 6 (d := dD "plus" 18) rfl
  obtain ⟨d_smallest, D_smallest⟩ := c.def_ 13 (d := dD "smallest" 25) rfl
  obtain ⟨d_largest, D_largest⟩ := c.def_ 14 (d := dD "largest" 26) rfl
  obtain ⟨d_law_pair, D_law_pair⟩ := c.def_ 21 (d := dD "_law_pair" 34) rfl
  obtain ⟨d_law_more, D_law_more⟩ := c.def_ 22 (d := dD "_law_more" 35) rfl
  obtain ⟨d_law_add, D_law_add⟩ := c.def_ 23 (d := dD "_law_add" 36) rfl
  obtain ⟨d_law_mul, D_law_mul⟩ := c.def_ 25 (d := dD "_law_mul" 38) rfl
  obtain ⟨d_law_div, D_law_div⟩ := c.def_ 26 (d := dD "_law_div" 39) rfl
  obtain ⟨d_law_min, D_law_min⟩ := c.def_ 27 (d := dD "_law_min" 40) rfl
  obtain ⟨d_law_max, D_law_max⟩ := c.def_ 28 (d := dD "_law_max" 41) rfl
  obtain ⟨d_law_sum, D_law_sum⟩ := c.def_ 29 (d := dD "_law_sum" 42) rfl
  obtain ⟨d_law_draw, D_law_draw⟩ := c.def_ 18 (d := dD "_law_draw" 31) rfl
  obtain ⟨d_law_bag, D_law_bag⟩ := c.def_ 17 (d := dD "_law_bag" 30) rfl
  obtain ⟨d_law_of, D_law_of⟩ := c.def_ 19 (d := dD "_law_of" 32) rfl
  obtain ⟨d_law_great, D_law_great⟩ := c.def_ 33 (d := dD "_law_great" 46) rfl
  obtain ⟨d_law_amount, D_law_amount⟩ := c.def_ 34 (d := dD "_law_amount" 47) rfl
  obtain ⟨d_law_like, D_law_like⟩ := c.def_ 20 (d := dD "_law_like" 33) rfl
  obtain ⟨d_number_text, D_number_text⟩ := c.def_ 1 (d := dD "number_text" 3) rfl
  obtain ⟨d_amount_text, D_amount_text⟩ := c.def_ 15 (d := dD "amount_text" 27) rfl
  obtain ⟨d_law_show, D_law_show⟩ := c.def_ 30 (d := dD "_law_show" 43) rfl
  obtain ⟨d_is_number, D_is_number⟩ := c.def_ 0 (d := dD "is_number" 2) rfl
  obtain ⟨d_is_amount, D_is_amount⟩ := c.def_ 4 (d := dD "is_amount" 16) rfl
  obtain ⟨d_law_is_amount, D_law_is_amount⟩ := c.def_ 31 (d := dD "_law_is_amount" 44) rfl
  obtain ⟨d_law_odd, D_law_odd⟩ := c.def_ 35 (d := dD "_law_odd" 48) rfl
  obtain ⟨d_BadAmount___init__, D_BadAmount___init__⟩ := c.def_ 47 (d := ⟨fun K => He.ma K (He.ga K "BadAmount") "__init__", "__init__", "BadAmount.__init__", defArgs (inClass (top 7) 0), defBody (inClass (top 7) 0), defScope (inClass (top 7) 0), [], []⟩) rfl
  obtain ⟨d_Short___init__, D_Short___init__⟩ := c.def_ 48 (d := ⟨fun K => He.ma K (He.ga K "Short") "__init__", "__init__", "Short.__init__", defArgs (inClass (top 8) 0), defBody (inClass (top 8) 0), defScope (inClass (top 8) 0), [], []⟩) rfl
  obtain ⟨d_amount, D_amount⟩ := c.def_ 3 (d := ⟨fun K => He.ga K "amount", "amount", "amount", defArgs (top 15), defBody (top 15), defScope (top 15), [.int 1], []⟩) rfl
  obtain ⟨d_is_small, D_is_small⟩ := c.def_ 5 (d := dD "is_small" 17) rfl
  obtain ⟨d_law_is_small, D_law_is_small⟩ := c.def_ 32 (d := dD "_law_is_small" 45) rfl
  obtain ⟨d_read_number, D_read_number⟩ := c.def_ 2 (d := dD "read_number" 4) rfl
  obtain ⟨d_read_amount, D_read_amount⟩ := c.def_ 16 (d := dD "read_amount" 28) rfl
  obtain ⟨d_law_digits, D_law_digits⟩ := c.def_ 37 (d := dD "_law_digits" 50) rfl
  obtain ⟨d_law_read, D_law_read⟩ := c.def_ 38 (d := dD "_law_read" 51) rfl
  obtain ⟨d_law_count, D_law_count⟩ := c.def_ 40 (d := dD "_law_count" 53) rfl
  obtain ⟨d_law_bent, D_law_bent⟩ := c.def_ 39 (d := dD "_law_bent" 52) rfl
  obtain ⟨d_law_sub, D_law_sub⟩ := c.def_ 24 (d := dD "_law_sub" 37) rfl
  obtain ⟨d_law_two_so, D_law_two_so⟩ := c.def_ 42 (d := dD "_law_two_so" 55) rfl
  obtain ⟨d_law_more_so, D_law_more_so⟩ := c.def_ 43 (d := dD "_law_more_so" 56) rfl
  obtain ⟨d_law_text_so, D_law_text_so⟩ := c.def_ 44 (d := dD "_law_text_so" 57) rfl
  obtain ⟨d_law_kinds_so, D_law_kinds_so⟩ := c.def_ 45 (d := dD "_law_kinds_so" 58) rfl
  obtain ⟨d_law_made_so, D_law_made_so⟩ := c.def_ 41 (d := dD "_law_made_so" 54) rfl
  obtain ⟨d_law, D_law⟩ := c.def_ 46 (d := dD "law" 59) rfl
  obtain ⟨d_law_told, D_law_told⟩ := c.def_ 36 (d := dD "_law_told" 49) rfl
  have e := hfa.symm.trans (He.glo_ok X G (c.fact 49 (f := .glo "law") rfl))
  cases e
  refine ⟨d_law, fun s v => (FunD.bindsA (ps := ["_law_script"]) D_law fun _ _ _ _ _ _ us hl => match us, hl with | [_], _ => rfl) s [v] rfl, fun base _ _ hTB => ?_⟩
  have L_law_told := told_lam (P := P) (w := w) (base := base) D_law_told (He.glo_ok X G (c.fact 39 (f := .glo "_law_told") rfl)) T0 mBandError YBadAmount NBadAmount_value YShort NShort_amount eBadAmount_BandError eShort_BandError kBadAmount_BadAmount kShort_BadAmount kShort_Short
  have F_added := f_added (P := P) (w := w) (base := base) D_added (He.glo_ok X G (c.fact 11 (f := .glo "_added") rfl)) T1
  have F_product := f_product (P := P) (w := w) (base := base) D_product (He.glo_ok X G (c.fact 14 (f := .glo "_product") rfl)) T1
  have Otimes := f_times (P := P) (w := w) (base := base) D_times (He.glo_ok X G (c.fact 12 (f := .glo "times") rfl)) F_product
  have Ftimes := fn_of_ok D_times (He.glo_ok X G (c.fact 12 (f := .glo "times") rfl)) Otimes (fun _ _ _ _ _ _ us hl => match us, hl with | [_, _], _ => rfl)
  have Stimes := fs_of_ok D_times (He.glo_ok X G (c.fact 12 (f := .glo "times") rfl)) Otimes (fun _ _ _ _ _ _ _ _ => rfl)
  have Ocompare := f_compare (P := P) (w := w) (base := base) D_compare (He.glo_ok X G (c.fact 15 (f := .glo "compare") rfl)) 
  have Fcompare := fn_of_ok D_compare (He.glo_ok X G (c.fact 15 (f := .glo "compare") rfl)) Ocompare (fun _ _ _ _ _ _ us hl => match us, hl with | [_, _], _ => rfl)
  have Scompare := fs_of_ok D_compare (He.glo_ok X G (c.fact 15 (f := .glo "compare") rfl)) Ocompare (fun _ _ _ _ _ _ _ _ => rfl)
  have Fminus := f_minus (P := P) (w := w) (base := base) D_minus (He.glo_ok X G (c.fact 10 (f := .glo "minus") rfl)) Fcompare F_added
  have Fover := f_over (P := P) (w := w) (base := base) D_over (He.glo_ok X G (c.fact 13 (f := .glo "over") rfl)) tup_ZERO F_product
  have Fplus := f_plus (P := P) (w := w) (base := base) D_plus (He.glo_ok X G (c.fact 9 (f := .glo "plus") rfl)) tup_ZERO F_added
  have Fsmallest := f_smallest (P := P) (w := w) (base := base) D_smallest (He.glo_ok X G (c.fact 16 (f := .glo "smallest") rfl)) Fcompare
  have Flargest := f_largest (P := P) (w := w) (base := base) D_largest (He.glo_ok X G (c.fact 17 (f := .glo "largest") rfl)) Fcompare
  have F_law_pair := f_law_pair (P := P) (w := w) (base := base) D_law_pair (He.glo_ok X G (c.fact 24 (f := .glo "_law_pair") rfl)) T0
  have F_law_more := f_law_more (P := P) (w := w) (base := base) D_law_more (He.glo_ok X G (c.fact 25 (f := .glo "_law_more") rfl)) 
  have F_law_add := f_law_add (P := P) (w := w) (base := base) D_law_add (He.glo_ok X G (c.fact 26 (f := .glo "_law_add") rfl)) F_law_pair
  have F_law_mul := f_law_mul (P := P) (w := w) (base := base) D_law_mul (He.glo_ok X G (c.fact 28 (f := .glo "_law_mul") rfl)) F_law_pair
  have F_law_div := f_law_div (P := P) (w := w) (base := base) D_law_div (He.glo_ok X G (c.fact 29 (f := .glo "_law_div") rfl)) F_law_pair
  have F_law_min := f_law_min (P := P) (w := w) (base := base) D_law_min (He.glo_ok X G (c.fact 30 (f := .glo "_law_min") rfl)) F_law_more
  have F_law_max := f_law_max (P := P) (w := w) (base := base) D_law_max (He.glo_ok X G (c.fact 31 (f := .glo "_law_max") rfl)) F_law_more
  have F_law_sum := f_law_sum (P := P) (w := w) (base := base) D_law_sum (He.glo_ok X G (c.fact 32 (f := .glo "_law_sum") rfl)) F_law_add
  have F_law_draw := f_law_draw (P := P) (w := w) (base := base) D_law_draw (He.glo_ok X G (c.fact 21 (f := .glo "_law_draw") rfl)) T0
  have F_law_bag := f_law_bag (P := P) (w := w) (base := base) D_law_bag (He.glo_ok X G (c.fact 20 (f := .glo "_law_bag") rfl)) T0
  have F_law_of := f_law_of (P := P) (w := w) (base := base) D_law_of (He.glo_ok X G (c.fact 22 (f := .glo "_law_of") rfl)) T0 F_law_draw
  have F_law_great := f_law_great (P := P) (w := w) (base := base) D_law_great (He.glo_ok X G (c.fact 36 (f := .glo "_law_great") rfl)) F_law_draw F_law_of
  have F_law_amount := f_law_amount (P := P) (w := w) (base := base) D_law_amount (He.glo_ok X G (c.fact 37 (f := .glo "_law_amount") rfl)) T0 F_law_draw F_law_of F_law_pair F_law_great
  have F_law_like0 : Fn P w K mg base 0 "_law_like" (spLike K 0) := fn_none D_law_like (He.glo_ok X G (c.fact 23 (f := .glo "_law_like") rfl))
  have F_law_like1 := f_law_like D_law_like (He.glo_ok X G (c.fact 23 (f := .glo "_law_like") rfl)) T0 0 F_law_like0
  have F_law_like2 := f_law_like D_law_like (He.glo_ok X G (c.fact 23 (f := .glo "_law_like") rfl)) T0 1 F_law_like1
  have F_law_like3 := f_law_like D_law_like (He.glo_ok X G (c.fact 23 (f := .glo "_law_like") rfl)) T0 2 F_law_like2
  have F_law_like4 := f_law_like D_law_like (He.glo_ok X G (c.fact 23 (f := .glo "_law_like") rfl)) T0 3 F_law_like3
  have F_law_like5 := f_law_like D_law_like (He.glo_ok X G (c.fact 23 (f := .glo "_law_like") rfl)) T0 4 F_law_like4
  have F_law_like := F_law_like5
  have Fnumber_text := f_number_text (P := P) (w := w) (base := base) D_number_text (He.glo_ok X G (c.fact 4 (f := .glo "number_text") rfl)) T0
  have Oamount_text := f_amount_text (P := P) (w := w) (base := base) D_amount_text (He.glo_ok X G (c.fact 18 (f := .glo "amount_text") rfl)) Fnumber_text
  have Famount_text := fn_of_ok D_amount_text (He.glo_ok X G (c.fact 18 (f := .glo "amount_text") rfl)) Oamount_text (fun _ _ _ _ _ _ us hl => match us, hl with | [_], _ => rfl)
  have Xamount_text_0_value := fx_of_ok (P := P) (w := w) (base := base) 0 ["value"] [0] D_amount_text (He.glo_ok X G (c.fact 18 (f := .glo "amount_text") rfl)) Oamount_text (by decide) (fun _ _ _ _ _ _ us ws h1 h2 => match us, ws, h1, h2 with | [], [_], _, _ => rfl)
  have F_law_show := f_law_show (P := P) (w := w) (base := base) D_law_show (He.glo_ok X G (c.fact 33 (f := .glo "_law_show") rfl)) T0
  have Fis_number := f_is_number (P := P) (w := w) (base := base) D_is_number (He.glo_ok X G (c.fact 3 (f := .glo "is_number") rfl)) T0
  have Ois_amount := f_is_amount (P := P) (w := w) (base := base) D_is_amount (He.glo_ok X G (c.fact 7 (f := .glo "is_amount") rfl)) T1 Fis_number
  have Fis_amount := fn_of_ok D_is_amount (He.glo_ok X G (c.fact 7 (f := .glo "is_amount") rfl)) Ois_amount (fun _ _ _ _ _ _ us hl => match us, hl with | [_], _ => rfl)
  have Xis_amount_0_value := fx_of_ok (P := P) (w := w) (base := base) 0 ["value"] [0] D_is_amount (He.glo_ok X G (c.fact 7 (f := .glo "is_amount") rfl)) Ois_amount (by decide) (fun _ _ _ _ _ _ us ws h1 h2 => match us, ws, h1, h2 with | [], [_], _, _ => rfl)
  have F_law_is_amount := f_law_is_amount (P := P) (w := w) (base := base) D_law_is_amount (He.glo_ok X G (c.fact 34 (f := .glo "_law_is_amount") rfl)) T0 F_law_pair
  have F_law_odd := f_law_odd (P := P) (w := w) (base := base) D_law_odd (He.glo_ok X G (c.fact 38 (f := .glo "_law_odd") rfl)) F_law_of
  have OBadAmount___init__ := f_BadAmount___init__ (P := P) (w := w) (base := base) D_BadAmount___init__ YBadAmount NBadAmount_value
  have XBadAmount : Xi P w K mg base 1 "BadAmount" (He.ga K "BadAmount") _ := Xh.xi_of YBadAmount m.1.1.1.1.1.1.1.1.1.1.1.1.1.1.1.1.1.2 OBadAmount___init__ (FunD.bindsN D_BadAmount___init__ (fun _ _ _ _ _ _ us hl => match us, hl with | [_, _], _ => rfl))
  have OShort___init__ := f_Short___init__ (P := P) (w := w) (base := base) D_Short___init__ YShort NShort_amount
  have XShort : Xi P w K mg base 1 "Short" (He.ga K "Short") _ := Xh.xi_of YShort m.1.1.1.1.1.1.1.1.1.1.1.1.1.1.2 OShort___init__ (FunD.bindsN D_Short___init__ (fun _ _ _ _ _ _ us hl => match us, hl with | [_, _], _ => rfl))
  have Zamount := x_amount (P := P) (w := w) (base := base) D_amount  T1 Fis_number XBadAmount
  obtain ⟨its_amount_0_bottom_top, KB_amount_0_bottom_top⟩ := FunD.kbindsD (ps := ["top", "bottom"]) D_amount 0 ["bottom", "top"] (fun us its ws => sw2 us ws) (fun z => nomatch (show ([V.int 1] : List V) = [] from z)) (fun r1 r2 r3 => sw2_rel r1 r3) (fun _ _ _ _ _ _ _ us its ws h1 h2 h3 => match us, its, ws, h1, h2, h3 with | [], [_], [_, _], _, _, _ => ⟨_, rfl, rfl⟩)
  have Lamount_0_bottom_top : FnG P w K mg base (L2.CX P w) 3 "amount" 0 ["bottom", "top"] sw2 _ := ⟨_, _, _, _, (He.glo_ok X G (c.fact 6 (f := .glo "amount") rfl)), D_amount.kp, ok_L Zamount, KB_amount_0_bottom_top⟩
  have Qamount_0_bottom_top : FnG P w K mg base CX0 3 "amount" 0 ["bottom", "top"] sw2 _ := ⟨_, _, _, _, (He.glo_ok X G (c.fact 6 (f := .glo "amount") rfl)), D_amount.kp, ok_0 Zamount, KB_amount_0_bottom_top⟩
  obtain ⟨its_amount_0_top, KB_amount_0_top⟩ := FunD.kbindsD (ps := ["top", "bottom"]) D_amount 0 ["top"] (fun us its ws => ws ++ its) (fun z => nomatch (show ([V.int 1] : List V) = [] from z)) (fun r1 r2 r3 => r3.append r2) (fun _ _ _ _ _ _ _ us its ws h1 h2 h3 => match us, its, ws, h1, h2, h3 with | [], [_], [_], _, _, _ => ⟨_, rfl, rfl⟩)
  have Lamount_0_top : FnG P w K mg base (L2.CX P w) 3 "amount" 0 ["top"] (fun _ zs => zs ++ [.int 1]) _ := ⟨_, _, _, _, (He.glo_ok X G (c.fact 6 (f := .glo "amount") rfl)), D_amount.kp, ok_L Zamount, KB_amount_0_top⟩
  have Qamount_0_top : FnG P w K mg base CX0 3 "amount" 0 ["top"] (fun _ zs => zs ++ [.int 1]) _ := ⟨_, _, _, _, (He.glo_ok X G (c.fact 6 (f := .glo "amount") rfl)), D_amount.kp, ok_0 Zamount, KB_amount_0_top⟩
  obtain ⟨its_amount_0_top_bottom, KB_amount_0_top_bottom⟩ := FunD.kbindsD (ps := ["top", "bottom"]) D_amount 0 ["top", "bottom"] (fun us its ws => ws) (fun z => nomatch (show ([V.int 1] : List V) = [] from z)) (fun r1 r2 r3 => r3) (fun _ _ _ _ _ _ _ us its ws h1 h2 h3 => match us, its, ws, h1, h2, h3 with | [], [_], [_, _], _, _, _ => ⟨_, rfl, rfl⟩)
  have Lamount_0_top_bottom : FnG P w K mg base (L2.CX P w) 3 "amount" 0 ["top", "bottom"] (fun _ zs => zs) _ := ⟨_, _, _, _, (He.glo_ok X G (c.fact 6 (f := .glo "amount") rfl)), D_amount.kp, ok_L Zamount, KB_amount_0_top_bottom⟩
  have Qamount_0_top_bottom : FnG P w K mg base CX0 3 "amount" 0 ["top", "bottom"] (fun _ zs => zs) _ := ⟨_, _, _, _, (He.glo_ok X G (c.fact 6 (f := .glo "amount") rfl)), D_amount.kp, ok_0 Zamount, KB_amount_0_top_bottom⟩
  obtain ⟨its_amount_1_, KB_amount_1_⟩ := FunD.kbindsD (ps := ["top", "bottom"]) D_amount 1 [] (fun us its ws => us ++ its) (fun z => nomatch (show ([V.int 1] : List V) = [] from z)) (fun r1 r2 r3 => r1.append r2) (fun _ _ _ _ _ _ _ us its ws h1 h2 h3 => match us, its, ws, h1, h2, h3 with | [_], [_], [], _, _, _ => ⟨_, rfl, rfl⟩)
  have Lamount_1_ : FnG P w K mg base (L2.CX P w) 3 "amount" 1 [] (fun vs _ => vs ++ [.int 1]) _ := ⟨_, _, _, _, (He.glo_ok X G (c.fact 6 (f := .glo "amount") rfl)), D_amount.kp, ok_L Zamount, KB_amount_1_⟩
  have Qamount_1_ : FnG P w K mg base CX0 3 "amount" 1 [] (fun vs _ => vs ++ [.int 1]) _ := ⟨_, _, _, _, (He.glo_ok X G (c.fact 6 (f := .glo "amount") rfl)), D_amount.kp, ok_0 Zamount, KB_amount_1_⟩
  obtain ⟨its_amount_2_, KB_amount_2_⟩ := FunD.kbindsD (ps := ["top", "bottom"]) D_amount 2 [] (fun us its ws => us) (fun z => nomatch (show ([V.int 1] : List V) = [] from z)) (fun r1 r2 r3 => r1) (fun _ _ _ _ _ _ _ us its ws h1 h2 h3 => match us, its, ws, h1, h2, h3 with | [_, _], [_], [], _, _, _ => ⟨_, rfl, rfl⟩)
  have Lamount_2_ : FnG P w K mg base (L2.CX P w) 3 "amount" 2 [] (fun vs _ => vs) _ := ⟨_, _, _, _, (He.glo_ok X G (c.fact 6 (f := .glo "amount") rfl)), D_amount.kp, ok_L Zamount, KB_amount_2_⟩
  have Qamount_2_ : FnG P w K mg base CX0 3 "amount" 2 [] (fun vs _ => vs) _ := ⟨_, _, _, _, (He.glo_ok X G (c.fact 6 (f := .glo "amount") rfl)), D_amount.kp, ok_0 Zamount, KB_amount_2_⟩
  have Zminus := x_minus (P := P) (w := w) (base := base) D_minus (He.glo_ok X G (c.fact 10 (f := .glo "minus") rfl)) Fcompare F_added XShort
  have Lminus_0_second_first : FnG P w K mg base (L2.CX P w) 3 "minus" 0 ["second", "first"] sw2 _ := ⟨_, _, _, _, (He.glo_ok X G (c.fact 10 (f := .glo "minus") rfl)), D_minus.kp, ok_L Zminus, kb_sw D_minus (fun _ _ _ _ _ _ _ _ => rfl)⟩
  have Qminus_0_second_first : FnG P w K mg base CX0 3 "minus" 0 ["second", "first"] sw2 _ := ⟨_, _, _, _, (He.glo_ok X G (c.fact 10 (f := .glo "minus") rfl)), D_minus.kp, ok_0 Zminus, kb_sw D_minus (fun _ _ _ _ _ _ _ _ => rfl)⟩
  have Lminus_2_ : FnG P w K mg base (L2.CX P w) 3 "minus" 2 [] (fun vs _ => vs) _ := ⟨_, _, _, _, (He.glo_ok X G (c.fact 10 (f := .glo "minus") rfl)), D_minus.kp, ok_L Zminus, kb_pos D_minus 2 (fun _ _ _ _ _ _ us hl => match us, hl with | [_, _], _ => rfl)⟩
  have Qminus_2_ : FnG P w K mg base CX0 3 "minus" 2 [] (fun vs _ => vs) _ := ⟨_, _, _, _, (He.glo_ok X G (c.fact 10 (f := .glo "minus") rfl)), D_minus.kp, ok_0 Zminus, kb_pos D_minus 2 (fun _ _ _ _ _ _ us hl => match us, hl with | [_, _], _ => rfl)⟩
  have Zover := x_over (P := P) (w := w) (base := base) D_over (He.glo_ok X G (c.fact 13 (f := .glo "over") rfl)) tup_ZERO F_product XBadAmount
  have Lover_0_second_first : FnG P w K mg base (L2.CX P w) 3 "over" 0 ["second", "first"] sw2 _ := ⟨_, _, _, _, (He.glo_ok X G (c.fact 13 (f := .glo "over") rfl)), D_over.kp, ok_L Zover, kb_sw D_over (fun _ _ _ _ _ _ _ _ => rfl)⟩
  have Qover_0_second_first : FnG P w K mg base CX0 3 "over" 0 ["second", "first"] sw2 _ := ⟨_, _, _, _, (He.glo_ok X G (c.fact 13 (f := .glo "over") rfl)), D_over.kp, ok_0 Zover, kb_sw D_over (fun _ _ _ _ _ _ _ _ => rfl)⟩
  have Lover_2_ : FnG P w K mg base (L2.CX P w) 3 "over" 2 [] (fun vs _ => vs) _ := ⟨_, _, _, _, (He.glo_ok X G (c.fact 13 (f := .glo "over") rfl)), D_over.kp, ok_L Zover, kb_pos D_over 2 (fun _ _ _ _ _ _ us hl => match us, hl with | [_, _], _ => rfl)⟩
  have Qover_2_ : FnG P w K mg base CX0 3 "over" 2 [] (fun vs _ => vs) _ := ⟨_, _, _, _, (He.glo_ok X G (c.fact 13 (f := .glo "over") rfl)), D_over.kp, ok_0 Zover, kb_pos D_over 2 (fun _ _ _ _ _ _ us hl => match us, hl with | [_, _], _ => rfl)⟩
  have Ois_small := f_is_small (P := P) (w := w) (base := base) D_is_small (He.glo_ok X G (c.fact 8 (f := .glo "is_small") rfl)) T0 i_SMALL_BOTTOM tup_TOP Fis_amount Fcompare
  have Fis_small := fn_of_ok D_is_small (He.glo_ok X G (c.fact 8 (f := .glo "is_small") rfl)) Ois_small (fun _ _ _ _ _ _ us hl => match us, hl with | [_], _ => rfl)
  have Xis_small_0_value := fx_of_ok (P := P) (w := w) (base := base) 0 ["value"] [0] D_is_small (He.glo_ok X G (c.fact 8 (f := .glo "is_small") rfl)) Ois_small (by decide) (fun _ _ _ _ _ _ us ws h1 h2 => match us, ws, h1, h2 with | [], [_], _, _ => rfl)
  have F_law_is_small := f_law_is_small (P := P) (w := w) (base := base) D_law_is_small (He.glo_ok X G (c.fact 35 (f := .glo "_law_is_small") rfl)) T0 F_law_is_amount
  have Fread_number := f_read_number (P := P) (w := w) (base := base) D_read_number (He.glo_ok X G (c.fact 5 (f := .glo "read_number") rfl)) T0
  have Oread_amount := f_read_amount (P := P) (w := w) (base := base) D_read_amount (He.glo_ok X G (c.fact 19 (f := .glo "read_amount") rfl)) T0 i_TEXT_DIGITS Fread_number Fis_amount
  have Fread_amount := fn_of_ok D_read_amount (He.glo_ok X G (c.fact 19 (f := .glo "read_amount") rfl)) Oread_amount (fun _ _ _ _ _ _ us hl => match us, hl with | [_], _ => rfl)
  have Xread_amount_0_text := fx_of_ok (P := P) (w := w) (base := base) 0 ["text"] [0] D_read_amount (He.glo_ok X G (c.fact 19 (f := .glo "read_amount") rfl)) Oread_amount (by decide) (fun _ _ _ _ _ _ us ws h1 h2 => match us, ws, h1, h2 with | [], [_], _, _ => rfl)
  have F_law_digits := f_law_digits (P := P) (w := w) (base := base) D_law_digits (He.glo_ok X G (c.fact 40 (f := .glo "_law_digits") rfl)) T0
  have F_law_read := f_law_read (P := P) (w := w) (base := base) D_law_read (He.glo_ok X G (c.fact 41 (f := .glo "_law_read") rfl)) T0 F_law_digits F_law_pair
  have F_law_count := f_law_count (P := P) (w := w) (base := base) D_law_count (He.glo_ok X G (c.fact 43 (f := .glo "_law_count") rfl)) T0 F_law_draw F_law_of
  have F_law_bent := f_law_bent (P := P) (w := w) (base := base) D_law_bent (He.glo_ok X G (c.fact 42 (f := .glo "_law_bent") rfl)) T0 F_law_draw F_law_of
  have F_law_sub := f_law_sub (P := P) (w := w) (base := base) D_law_sub (He.glo_ok X G (c.fact 27 (f := .glo "_law_sub") rfl)) F_law_pair
  have F_law_two_so := f_law_two_so (P := P) (w := w) (base := base) D_law_two_so (He.glo_ok X G (c.fact 45 (f := .glo "_law_two_so") rfl)) (Hk.code_of (x := "_law_two_so") D_law_two_so) (hTB _ (List.mem_cons_of_mem _ List.mem_cons_self)) hPne tup_ZERO tup_ONE L_law_told Lminus_2_ Lminus_0_second_first Lover_2_ Lover_0_second_first F_law_more F_law_sub F_law_div F_law_mul F_law_like Ftimes Stimes Fcompare Scompare Fsmallest Flargest F_law_min F_law_max
  have F_law_more_so := f_law_more_so (P := P) (w := w) (base := base) D_law_more_so (He.glo_ok X G (c.fact 46 (f := .glo "_law_more_so") rfl)) F_law_like Fplus F_law_sum Fsmallest Flargest F_law_min F_law_max
  have F_law_text_so := f_law_text_so (P := P) (w := w) (base := base) D_law_text_so (He.glo_ok X G (c.fact 47 (f := .glo "_law_text_so") rfl)) T0 F_law_like F_law_show Famount_text Xamount_text_0_value Fread_amount Xread_amount_0_text F_law_bent F_law_read F_law_of F_law_odd
  have F_law_kinds_so := f_law_kinds_so (P := P) (w := w) (base := base) D_law_kinds_so (He.glo_ok X G (c.fact 48 (f := .glo "_law_kinds_so") rfl)) T0 F_law_like Fis_amount Xis_amount_0_value Fis_small Xis_small_0_value F_law_is_amount F_law_is_small F_law_of F_law_odd
  have F_law_made_so := f_law_made_so (P := P) (w := w) (base := base) D_law_made_so (He.glo_ok X G (c.fact 44 (f := .glo "_law_made_so") rfl)) (Hk.code_of (x := "_law_made_so") D_law_made_so) (hTB _ List.mem_cons_self) hPne T0 L_law_told Lamount_2_ Lamount_0_bottom_top Qamount_2_ Qamount_0_top_bottom Qamount_0_bottom_top Qamount_1_ Qamount_0_top F_law_draw F_law_of F_law_count F_law_pair F_law_like
  exact f_law (P := P) (w := w) (base := base) D_law (He.glo_ok X G (c.fact 49 (f := .glo "law") rfl)) T0 tup_ZERO tup_ONE tup_TOP F_law_bag F_law_like F_law_amount F_law_of F_law_made_so F_law_two_so F_law_more_so F_law_text_so F_law_kinds_so
end YkHead
open PySem PySem.W PySem.Calls PyProof.Rows in
theorem PySem.Challenge.cw_bandheld_k00_amounts_reckoned_holds : PySem.Challenge.rw_bandheld_k00_amounts_reckoned.Holds := by
  w_on; o_law
  refine HandSHeadRun.head_imp (r := OpenLaw.row PySem.Challenge.rw_bandheld_k00_amounts_reckoned) (q := view (OpenLaw.row PySem.Challenge.rw_bandheld_k00_amounts_reckoned).prog [0, 59]) (H := YkHead.hk) (ob := YkHead.ob) (M := 8000) (loose := YkHead.loose) (d := HandSHeadRun.topDef (OpenLaw.row PySem.Challenge.rw_bandheld_k00_amounts_reckoned).prog 59) (kwd := []) YkHead.ob_eq YkHead.run
    (by kernel_rfl) (by kernel_rfl) (by kernel_rfl) (by rfl) (by first | assumption | decide +kernel) (by decide +kernel) ⟨rfl, rfl, rfl, rfl, rfl, by decide +kernel⟩ ?hw ?hc
  case hw => w_witness2
  case hc =>
    refine Hk.walk_ofET (l := PySem.Challenge.rw_bandheld_k00_amounts_reckoned) (n := 63) (k := 7) (x := "_law_script") (CX := L2.CX0) rfl (by decide) (by kernel_rfl) ⟨rfl, by decide, by decide⟩ ?F (fun _ _ _ _ z => z)
    intro w mg fa h Y G hmg0
    obtain ⟨K, KX, c⟩ := Y
    have hmg : mg ("law" : PySem.Str) = some (.ref fa) := by
      have e : (HandSHeadRun.topDef (OpenLaw.row PySem.Challenge.rw_bandheld_k00_amounts_reckoned).prog 59).name = ("law" : PySem.Str) := by kernel_rfl
      rw [← e]
      exact hmg0
    obtain ⟨fd, hb, hF⟩ := YkHead.facts (P := (PySem.Challenge.rw_bandheld_k00_amounts_reckoned).prog) (w := w) KX G hmg c
    exact ⟨K, fd, [He.cT K ("_law_made_so", none), He.cT K ("_law_two_so", none)], Yk.spLaw00 (He.cT K ("_law_made_so", none)).2 (He.cT K ("_law_two_so", none)).2 K, KX, (fun p hp => by simp only [List.mem_cons, List.not_mem_nil, or_false] at hp; rcases hp with rfl | rfl <;> exact c.empty _ (by simp [YkHead.tf])), (fun p hp => by simp only [List.mem_cons, List.not_mem_nil, or_false] at hp; rcases hp with rfl | rfl <;> exact c.out _ (by simp [YkHead.tf])), (fun p hp => by simp only [List.mem_cons, List.not_mem_nil, or_false] at hp; rcases hp with rfl | rfl <;> exact PySem.W.codeHd_of_K KX (c.hd _ (by simp [YkHead.tf]))), hb, fun H a ns hl hT hS => ⟨a, ns, rfl, hS, hl, hT _ List.mem_cons_self, hT _ (List.mem_cons_of_mem _ List.mem_cons_self), fun _ => rfl⟩, hF⟩

