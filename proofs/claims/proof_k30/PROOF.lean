import PyProof.Rows.All
import Wide.All
import OpenK.AllK
import Wide.FinOn
import HandS.ForMost
import HandS.Defaults
import HandS.Star
import HandS.Gcd
import HandS.Wide
import HandS.HeadHook4
import HandS.NoneIn
import HandS.IsInst
import HandS.Zip
import HandS.HeadEnd
import HandS.Head3
import HandS.Property
import HandS.EndTab
import HandS.MakeKw
import HandS.MakeKwOnly
import HandS.More
import HandS.ClsMeth
import KE.GoesNew
import KE.GoesMore
import HandS.HotCalls
import HandS.ExcInit
import HandS.ExcInitHot
import HandS.ExcCtx
import HandS.ExcField
import HandS.ExcOwn
import KE.KExcIs
import KE.KExcInit
import HandS.OwnEq
import HandS.Text
import HandS.StrMore
import HandS.FStr
import HandS.Style
import HandS.WideBits
import HandS.DictComp
import HandS.Walk
import HandS.Lambda
import HandS.Deep
import HandS.Conv
import HandS.DictTup
import KE.KDictList
import HandS.DeepEq
import HandS.Remove
import KE.DataFind
import HandS.WordsDict
import HandS.SortKw
import KE.SortKeyHeap
import PySem.Challenge.RW_bandheld_k30_whole_bags
set_option Elab.async false
set_option linter.all false
set_option maxRecDepth 100000
set_option maxHeartbeats 1000000
/-! The layer over the hand layer: what is kept from heap to heap, amounts as rational numbers, readings step by step. -/
namespace Yk
open PySem PySem.Spec PyProof.Rows L2

/-! ### what is kept: all that is tracked, but what stands at S -/
def Ext (S : List Addr) (H H' : Hp) : Prop := ∀ a o, H a = some o → a ∉ S → H' a = some o
theorem Ext.refl {S : List Addr} {H : Hp} : Ext S H H := fun _ _ h _ => h
theorem Ext.trans {S : List Addr} {H H1 H2 : Hp} (a : Ext S H H1) (b : Ext S H1 H2) : Ext S H H2 := fun x o h n => b x o (a x o h n) n
theorem Ext.mono {S T : List Addr} {H H1 : Hp} (a : Ext S H H1) (h : ∀ x ∈ S, x ∈ T) : Ext T H H1 := fun x o e n => a x o e fun z => n (h x z)
theorem Ext.of0 {T : List Addr} {H H1 : Hp} (a : Ext [] H H1) : Ext T H H1 := a.mono fun _ z => nomatch z
theorem Ext.new {S : List Addr} {H H1 : Hp} {p : Addr} {o : HO} (e : Ext S H H1) (h : H1 p = none) : Ext S H (upd H1 p o) := fun a u ha n => by
  have h1 := e a u ha n
  rw [upd_ne (ne_of_none h1 h)]
  exact h1
theorem Ext.at_ {S : List Addr} {H H1 : Hp} {p : Addr} {o : HO} (e : Ext S H H1) (h : p ∈ S) : Ext S H (upd H1 p o) := fun a u ha n => by
  have h1 : a ≠ p := fun z => n (by rw [z]; exact h)
  rw [upd_ne h1]
  exact e a u ha n
/-- what is new to H may change -/
theorem Ext.own {S : List Addr} {H H1 : Hp} {p : Addr} {o : HO} (e : Ext S H H1) (h : H p = none) : Ext S H (upd H1 p o) := fun a u ha n => by
  rw [upd_ne (ne_of_none ha h)]
  exact e a u ha n
theorem Ext.free {H H1 : Hp} (e : Ext [] H H1) {p : Addr} (h : H1 p = none) : H p = none := by
  cases h1 : H p with
  | none => rfl
  | some o =>
    rw [e p o h1 (fun z => nomatch z)] at h
    cases h
theorem Ext.freeS {S : List Addr} {H H1 : Hp} (e : Ext S H H1) {p : Addr} (h : H1 p = none) (hs : ∀ a ∈ S, H1 a ≠ none) : H p = none := by
  cases h1 : H p with
  | none => rfl
  | some o =>
    rw [e p o h1 (fun z => hs p z h)] at h
    cases h

/-- the tuple at a, the list at a, carried on -/
theorem tupX {S : List Addr} {K : PySem.W.Frag} {H H1 : Hp} {a : Addr} {xs : List V} (e : Ext S H H1) (h : SqT K H a xs) (hs : ∀ b ∈ S, ∃ l, H b = some (.lst l)) : SqT K H1 a xs := by
  rcases h with (h | ⟨o, h⟩) | h
  · exact .inl (.inl (e a _ h fun z => by obtain ⟨l, q⟩ := hs a z; rw [h] at q; cases q))
  · exact .inl (.inr ⟨o, e a _ h fun z => by obtain ⟨l, q⟩ := hs a z; rw [h] at q; cases q⟩)
  · exact .inr h
theorem tup0 {K : PySem.W.Frag} {H H1 : Hp} {a : Addr} {xs : List V} (e : Ext [] H H1) (h : SqT K H a xs) : SqT K H1 a xs := tupX e h fun _ z => nomatch z
theorem tupN {K : PySem.W.Frag} {H : Hp} {a p : Addr} {o : HO} {xs : List V} (h : SqT K H a xs) (hp : H p = none) : SqT K (upd H p o) a xs := tup0 (Ext.refl.new hp) h
theorem tupW {K : PySem.W.Frag} {H : Hp} {a p : Addr} {l l' : List V} {xs : List V} (h : SqT K H a xs) (hp : H p = some (.lst l)) : SqT K (upd H p (.lst l')) a xs :=
  tupX (S := [p]) (Ext.refl.at_ List.mem_cons_self) h fun b hb => by rw [List.mem_singleton.mp hb]; exact ⟨l, hp⟩
theorem tupS {K : PySem.W.Frag} {H : Hp} {p : Addr} {xs : List V} : SqT K (upd H p (.tup xs)) p xs := .inl (.inl upd_same)
theorem lstX {S : List Addr} {K : PySem.W.Frag} {H H1 : Hp} {a : Addr} {xs : List V} (e : Ext S H H1) (h : SqL K H a xs) (hs : a ∉ S) : SqL K H1 a xs := by
  rcases h with (h | ⟨o, h⟩) | h
  · exact .inl (.inl (e a _ h hs))
  · exact .inl (.inr ⟨o, e a _ h hs⟩)
  · exact .inr h
theorem lst0 {K : PySem.W.Frag} {H H1 : Hp} {a : Addr} {xs : List V} (e : Ext [] H H1) (h : SqL K H a xs) : SqL K H1 a xs := lstX e h fun z => nomatch z
theorem lstN {K : PySem.W.Frag} {H : Hp} {a p : Addr} {o : HO} {xs : List V} (h : SqL K H a xs) (hp : H p = none) : SqL K (upd H p o) a xs := lst0 (Ext.refl.new hp) h
theorem lstS {K : PySem.W.Frag} {H : Hp} {p : Addr} {xs : List V} : SqL K (upd H p (.lst xs)) p xs := .inl (.inl upd_same)

/-! ### a def by its name -/
section
variable (P : Program) (w : World) (K : PySem.W.Frag) (mg : Str → Option Value) (base : Heap)
structure Fn (k : Nat) (x : Str) (sp : Sp) : Prop where
  run : ∃ f, mg x = some (.ref f) ∧ PySem.W.keepIn K (.ref f) = true ∧ FnR P w K mg base CX0 k f sp
end
section
variable {X : Cx} {k : Nat} {sp : Sp} {x : Str} {p pos : Pos} {e : Expr} {es : List Expr} {t : TA}
def tR (sp : Sp) (t : TA) : TE := fun σ H Q => t σ H fun vs H1 => sp vs H1 Q E0
theorem pe_fn (F : Fn X.prog X.w X.K X.mg X.base k x sp) (hr : Room k X.A) (ha : PA X (e :: es) t) (hg : Gl X x := by rfl) (hdb : (x == ("__debug__" : Str)) = false := by decide)
    (hx : Passes CX0 X E0 := by exact pass0)
    (he : starEach (e :: es) X.env = (false, eval e X.env) :: starEach es X.env := by rfl) (hpl : (backTo pos (starEach es X.env)).any (·.1) = false := by rfl) :
    PE X (.Call (.Name x p) (e :: es) [] pos) (tR sp t) := by
  obtain ⟨f, hm, hk, F⟩ := F.run
  refine ⟨fun pins s σ H Q I h => ?_⟩
  refine wpAny_Call_Name_kw (ld_glob I hg hm ?_ hdb)
  refine PySem.W.callWith_K (h₀ := X.base) I.ok.mod.kin hk (thn (ha.run pos pins s σ H _ I h) fun us s1 ⟨vs, H1, I1, r, q⟩ => ⟨I1.kIn, ?_⟩) he hpl
  exact wpAny_call (run_fnR F hr hx I1 r q)
theorem Fn.mono {P : Program} {w : World} {K : PySem.W.Frag} {mg : Str → Option Value} {base : Heap} {j k : Nat} {x : Str} {sp : Sp} (F : Fn P w K mg base j x sp) (h : j ≤ k) : Fn P w K mg base k x sp := by
  obtain ⟨f, hm, hk, F⟩ := F.run
  exact ⟨f, hm, hk, F.mono h⟩
end
/-- how a def of the text keeps a promise -/
theorem fn_def {P : Program} {w : World} {K : PySem.W.Frag} {mg : Str → Option Value} {base : Heap} {x : Str} {params : Arguments} {body : List Stmt} {scope : Scope} {f : Addr} {fd : FuncData} {N ps : List Str} {k : Nat} {sp : Sp}
    (F : FunD K x x params body scope [] [] f fd) (hm : mg x = some (.ref f)) (S : FnScope N ps scope) (len : ∀ vs H Q E, sp vs H Q E → vs.length = ps.length)
    (hb : ∀ (kV doc pm : Value) (an : Option Addr) (cdv ct : Value) (us : List Value), us.length = ps.length → bindArgs (PySem.W.fnOf x x params body scope .none kV doc pm an cdv ct) ⟨us, []⟩ = pure (ps.zip us))
    (hbody : ∀ (cdv : Value) (A : Around) (outer : List Env) (s : Shared) (H : Hp) (vs : List V) (Q : VK) (E : XK), Room k (A.deeper (envOfC x scope s.heap.objs.size f cdv)) → sp vs H Q E →
      ∃ t, PSs (cxOf CX0 P w K mg base N x scope f cdv A outer s H E).nox body t ∧ t ⟨fun _ H' => Q .non H', Q, fun _ _ => False, fun _ _ => False⟩ (start N vs) H) : Fn P w K mg base (k + 1) x sp := by
  have G : FnOk P w K mg base CX0 (k + 1) f fd ps sp := F.ok S len fun cdv A outer s H vs Q E hr h => by
    obtain ⟨t, h1, h2⟩ := hbody cdv A outer s H vs Q E hr h
    exact ⟨t, h1.nox, h2⟩
  have b := F.bindsN hb
  have R := G.raw b .nil
  refine ⟨f, hm, F.kp, R.imp fun vs H Q E h => ?_⟩
  rw [List.append_nil]
  exact h

/-! ### len, list by names -/
def rLn (K : PySem.W.Frag) : List V → Hp → VK → Prop := fun xs H Q => ∃ p ys, xs = [.ref p] ∧ (SqL K H p ys ∨ SqT K H p ys) ∧ Q (.int ys.length) H
def rLs (K : PySem.W.Frag) : List V → Hp → VK → Prop := fun xs H Q => ∃ p ys, xs = [.ref p] ∧ (SqL K H p ys ∨ SqT K H p ys) ∧ ∀ l, H l = none → Q (.ref l) (upd H l (.lst ys))
section
variable {X : Cx}
theorem cr_len : CallR X (.builtin "len") (rLn X.K) := call_len_seq
theorem cr_list : CallR X (.type "list") (rLs X.K) := call_list_of
end
/-! ### readings, one step each -/
section
variable {nx : L2.St → Hp → Prop} {rt : VK} {bk ct : L2.St → Hp → Prop} {σ : L2.St} {H : Hp} {K : PySem.W.Frag} {Q : VK} {t u : TS} {te ta tb : TE} {g : TG} {c : TT} {v x y : V}
theorem r_seq (h : t ⟨u ⟨nx, rt, bk, ct⟩, rt, bk, ct⟩ σ H) : tSeq t u ⟨nx, rt, bk, ct⟩ σ H := h
theorem r_next (h : nx σ H) : tNext ⟨nx, rt, bk, ct⟩ σ H := h
theorem r_asg (h : te σ H fun x H1 => g x σ H1 nx) : tAsg te g ⟨nx, rt, bk, ct⟩ σ H := h
theorem r_ret (h : te σ H rt) : tRet te ⟨nx, rt, bk, ct⟩ σ H := h
theorem r_drop (h : te σ H fun _ H1 => nx σ H1) : tDrop te ⟨nx, rt, bk, ct⟩ σ H := h
theorem r_ifS (h : c σ H fun b H1 => if b = true then t ⟨nx, rt, bk, ct⟩ σ H1 else u ⟨nx, rt, bk, ct⟩ σ H1) : tIfS c t u ⟨nx, rt, bk, ct⟩ σ H := h
theorem r_par {i j : Nat} {ta : TA} (h : ta σ H fun vs H1 => ∃ v w, vs = [v, w] ∧ nx ((σ.set i (some v)).set j (some w)) H1) : tPar i j ta ⟨nx, rt, bk, ct⟩ σ H := h
theorem r_name {i : Nat} {R : L2.St → Hp → Prop} (h : R (σ.set i (some v)) H) : gName i v σ H R := h
theorem r_gTup {n : Nat} {ts : TGs} {a : Addr} {xs : List V} {R : L2.St → Hp → Prop} (h1 : SqT K H a xs) (h2 : xs.length = n) (h : ts xs σ H R) : gTup K n ts (.ref a) σ H R := ⟨a, xs, rfl, h1, h2, h⟩
theorem r_gCons {ts : TGs} {vs : List V} {R : L2.St → Hp → Prop} (h : g v σ H fun σ' H' => ts vs σ' H' R) : gCons g ts (v :: vs) σ H R := ⟨v, vs, rfl, h⟩
theorem r_gNil {R : L2.St → Hp → Prop} (h : R σ H) : gNil [] σ H R := ⟨rfl, h⟩
theorem r_gSub {to ti : TE} {ts : TSet} {R : L2.St → Hp → Prop} (h : to σ H fun o H1 => ti σ H1 fun i H2 => ts o i v H2 fun H3 => R σ H3) : gSub to ti ts v σ H R := h
theorem r_var {i : Nat} (h1 : σ[i]? = some (some v)) (h : Q v H) : tVar i σ H Q := ⟨v, h1, h⟩
theorem r_c (h : Q v H) : tC v σ H Q := h
theorem r_op {r : R2} (h : ta σ H fun x H1 => tb σ H1 fun y H2 => r x y H2 Q) : tOp r ta tb σ H Q := h
theorem r_un {r : V → Hp → VK → Prop} (h : ta σ H fun x H1 => r x H1 Q) : tUn r ta σ H Q := h
theorem r_I0 {f : Int → Int → V} {i j : Int} (h : Q (f i j) H) : rI0 f (.int i) (.int j) H Q := ⟨i, j, rfl, rfl, h⟩
theorem r_I {C : Int → Int → Prop} {f : Int → Int → V} {i j : Int} (hc : C i j) (h : Q (f i j) H) : rI C f (.int i) (.int j) H Q := ⟨i, j, rfl, rfl, hc, h⟩
theorem r_U {f : Int → V} {i : Int} (h : Q (f i) H) : rU f (.int i) H Q := ⟨i, rfl, h⟩
theorem r_ixT {p : Addr} {xs : List V} {i : Int} (h1 : SqT K H p xs) (h2 : atI xs i = some v) (h : Q v H) : rIxT K (.ref p) (.int i) H Q := ⟨p, xs, i, v, rfl, rfl, h1, h2, h⟩
theorem r_ixL {p : Addr} {xs : List V} {i : Int} (h1 : SqL K H p xs) (h2 : atI xs i = some v) (h : Q v H) : rIxL K (.ref p) (.int i) H Q := ⟨p, xs, i, v, rfl, rfl, h1, h2, h⟩
theorem r_cons {t : TA} {R : List V → Hp → Prop} (h : ta σ H fun x H1 => t σ H1 fun xs H2 => R (x :: xs) H2) : tCons ta t σ H R := h
theorem r_nil {R : List V → Hp → Prop} (h : R [] H) : tNil σ H R := h
theorem r_tup {t : TA} (h : t σ H fun xs H1 => xs.length ≤ sizeLine ∧ ∀ p, H1 p = none → Q (.ref p) (upd H1 p (.tup xs))) : tTup t σ H Q := h
theorem r_lst {t : TA} (h : t σ H fun xs H1 => xs.length ≤ sizeLine ∧ ∀ p, H1 p = none → Q (.ref p) (upd H1 p (.lst xs))) : tLst t σ H Q := h
theorem r_CB {r : List V → Hp → VK → Prop} {t : TA} (h : t σ H fun vs H1 => r vs H1 Q) : tCB r t σ H Q := h
theorem r_R {sp : Sp} {t : TA} (h : t σ H fun vs H1 => sp vs H1 Q E0) : tR sp t σ H Q := h
theorem r_gcd {a b : Int} (h : Q (.int ((Nat.gcd a.natAbs b.natAbs : Nat) : Int)) H) : rGcd [.int a, .int b] H Q := ⟨a, b, rfl, h⟩
theorem r_test {R : Bool → Hp → Prop} (h : te σ H fun x H' => ∃ k, x = .bl k ∧ R k H') : tTest te σ H R := h
theorem r_B {R : Bool → Hp → Prop} (h : te σ H fun x H' => ∃ k, x = .bl k ∧ R k H') : tB te σ H R := h
theorem r_bl {b : Bool} {R : Bool → Prop} (h : R b) : ∃ k, V.bl b = .bl k ∧ R k := ⟨b, rfl, h⟩
theorem r_if (h : c σ H fun b H1 => if b = true then ta σ H1 Q else tb σ H1 Q) : tIf c ta tb σ H Q := h
theorem r_and {d : TT} {R : Bool → Hp → Prop} (h : c σ H fun b H1 => if b = true then d σ H1 R else R false H1) : tAnd c d σ H R := h
theorem r_or {d : TT} {R : Bool → Hp → Prop} (h : c σ H fun b H1 => if b = true then R true H1 else d σ H1 R) : tOr c d σ H R := h
theorem r_not {R : Bool → Hp → Prop} (h : c σ H fun b H1 => R (!b) H1) : tNot c σ H R := h
theorem r_eq (hs : scal x y = true) (h : Q (.bl (decide (x = y))) H) : rEq x y H Q := ⟨hs, h⟩
theorem r_ne (hs : scal x y = true) (h : Q (.bl (!decide (x = y))) H) : rNe x y H Q := ⟨hs, h⟩
theorem r_dec {p : Prop} [Decidable p] {A B : Prop} (h1 : p → A) (h2 : ¬ p → B) : if decide p = true then A else B := by
  by_cases hp : p
  · rw [decide_eq_true hp, if_pos rfl]; exact h1 hp
  · rw [decide_eq_false hp, if_neg (by decide)]; exact h2 hp
theorem r_forT {i : Nat} {a : Addr} {xs : List V} (h1 : σ[i]? = some (some (.ref a))) (h2 : SqT K H a xs) (Pv : Nat → L2.St → Hp → Prop) (h0 : Pv 0 σ H) (hl : ∀ i σ H, i ≤ xs.length → Pv i σ H → SqT K H a xs)
    (hs : ∀ i x σ H, xs[i]? = some x → Pv i σ H → g x σ H fun σ2 H2 => t ⟨Pv (i + 1), rt, nx, Pv (i + 1)⟩ σ2 H2) (hd : ∀ σ H, Pv xs.length σ H → nx σ H) : tFor (iTup K (tVar i)) g t ⟨nx, rt, bk, ct⟩ σ H :=
  ⟨_, h1, a, rfl, ⟨xs, h2⟩, for_tup Pv h0 hl hs hd⟩
theorem r_forL {i : Nat} {a : Addr} {xs : List V} (h1 : σ[i]? = some (some (.ref a))) (h2 : SqL K H a xs) (Pv : Nat → L2.St → Hp → Prop) (h0 : Pv 0 σ H) (hl : ∀ i σ H, i ≤ xs.length → Pv i σ H → SqL K H a xs)
    (hs : ∀ i x σ H, xs[i]? = some x → Pv i σ H → g x σ H fun σ2 H2 => t ⟨Pv (i + 1), rt, nx, Pv (i + 1)⟩ σ2 H2) (hd : ∀ σ H, Pv xs.length σ H → nx σ H) : tFor (iList K (tVar i)) g t ⟨nx, rt, bk, ct⟩ σ H :=
  ⟨_, h1, a, rfl, ⟨xs, h2⟩, for_list Pv h0 hl hs hd⟩
theorem r_for {wi : TI} (h : wi σ H fun J H1 => ∃ W : Nat → Nat → L2.St → Hp → Prop, (∃ m, W 0 m σ H1) ∧ ∀ i m σ H, W i m σ H →
  (J.stop i H ∧ nx σ H) ∨ (J.go i H ∧ ∃ N : L2.St → Hp → Prop, (∀ σ' H', N σ' H' → ∃ m', m' < m ∧ W (i + 1) m' σ' H') ∧ ∀ x H', J.yld i H x H' → g x σ H' fun σ2 H2 => t ⟨N, rt, nx, N⟩ σ2 H2)) : tFor wi g t ⟨nx, rt, bk, ct⟩ σ H := h
theorem r_iList {tl : TE} {R : It → Hp → Prop} (h : tl σ H fun x H1 => ∃ a, x = .ref a ∧ (∃ xs, SqL K H1 a xs) ∧ R (Itl K a) H1) : iList K tl σ H R := h
theorem r_iTup {tl : TE} {R : It → Hp → Prop} (h : tl σ H fun x H1 => ∃ a, x = .ref a ∧ (∃ xs, SqT K H1 a xs) ∧ R (Itt K a) H1) : iTup K tl σ H R := h
theorem r_iRng1 {ta : TA} {R : It → Hp → Prop} (h : ta σ H fun vs H1 => ∃ j : Int, vs = [.int j] ∧ -(2 ^ 62) ≤ j ∧ j < 2 ^ 62 ∧ R (Itr 0 j.toNat) H1) : iRng1 ta σ H R := h
theorem r_loopL {a : Addr} {xs : List V} (Pv : Nat → L2.St → Hp → Prop) (h0 : Pv 0 σ H) (hl : ∀ i σ H, i ≤ xs.length → Pv i σ H → SqL K H a xs)
    (hs : ∀ i x σ H, xs[i]? = some x → Pv i σ H → g x σ H fun σ2 H2 => t ⟨Pv (i + 1), rt, nx, Pv (i + 1)⟩ σ2 H2) (hd : ∀ σ H, Pv xs.length σ H → nx σ H) :
    ∃ W : Nat → Nat → L2.St → Hp → Prop, (∃ m, W 0 m σ H) ∧ ∀ i m σ H, W i m σ H →
      ((Itl K a).stop i H ∧ nx σ H) ∨ ((Itl K a).go i H ∧ ∃ N : L2.St → Hp → Prop, (∀ σ' H', N σ' H' → ∃ m', m' < m ∧ W (i + 1) m' σ' H') ∧ ∀ x H', (Itl K a).yld i H x H' → g x σ H' fun σ2 H2 => t ⟨N, rt, nx, N⟩ σ2 H2) :=
  for_list (D := ⟨nx, rt, nx, nx⟩) Pv h0 hl hs hd
theorem r_loopT {a : Addr} {xs : List V} (Pv : Nat → L2.St → Hp → Prop) (h0 : Pv 0 σ H) (hl : ∀ i σ H, i ≤ xs.length → Pv i σ H → SqT K H a xs)
    (hs : ∀ i x σ H, xs[i]? = some x → Pv i σ H → g x σ H fun σ2 H2 => t ⟨Pv (i + 1), rt, nx, Pv (i + 1)⟩ σ2 H2) (hd : ∀ σ H, Pv xs.length σ H → nx σ H) :
    ∃ W : Nat → Nat → L2.St → Hp → Prop, (∃ m, W 0 m σ H) ∧ ∀ i m σ H, W i m σ H →
      ((Itt K a).stop i H ∧ nx σ H) ∨ ((Itt K a).go i H ∧ ∃ N : L2.St → Hp → Prop, (∀ σ' H', N σ' H' → ∃ m', m' < m ∧ W (i + 1) m' σ' H') ∧ ∀ x H', (Itt K a).yld i H x H' → g x σ H' fun σ2 H2 => t ⟨N, rt, nx, N⟩ σ2 H2) :=
  for_tup (D := ⟨nx, rt, nx, nx⟩) Pv h0 hl hs hd
theorem r_loopR {lo : Int} {n : Nat} (Pv : Nat → L2.St → Hp → Prop) (h0 : Pv 0 σ H)
    (hs : ∀ i σ H, i < n → Pv i σ H → g (.int (lo + i)) σ H fun σ2 H2 => t ⟨Pv (i + 1), rt, nx, Pv (i + 1)⟩ σ2 H2) (hd : ∀ σ H, Pv n σ H → nx σ H) :
    ∃ W : Nat → Nat → L2.St → Hp → Prop, (∃ m, W 0 m σ H) ∧ ∀ i m σ H, W i m σ H →
      ((Itr lo n).stop i H ∧ nx σ H) ∨ ((Itr lo n).go i H ∧ ∃ N : L2.St → Hp → Prop, (∀ σ' H', N σ' H' → ∃ m', m' < m ∧ W (i + 1) m' σ' H') ∧ ∀ x H', (Itr lo n).yld i H x H' → g x σ H' fun σ2 H2 => t ⟨N, rt, nx, N⟩ σ2 H2) :=
  for_range (D := ⟨nx, rt, nx, nx⟩) Pv h0 hs hd
theorem r_gUnl {n : Nat} {ts : TGs} {a : Addr} {xs : List V} {R : L2.St → Hp → Prop} (h1 : SqL K H a xs) (h2 : xs.length = n) (h : ts xs σ H R) : gUnl K n ts (.ref a) σ H R := ⟨a, xs, rfl, h1, h2, h⟩
theorem r_BM {T : String} {r : V → List V → Hp → VK → Prop} {to : TE} {ta : TA} (h : to σ H fun x H1 => tyV K T x H1 ∧ ta σ H1 fun xs H2 => r x xs H2 Q) : tBM K T r to ta σ H Q := h
theorem r_BM0 {T : String} {r : V → List V → Hp → VK → Prop} {to : TE} (h : to σ H fun x H1 => tyV K T x H1 ∧ r x [] H1 Q) : tBM0 K T r to σ H Q := h
theorem r_lc {wi : TI} {g : TG} {tt : TT} {te : TE} {vs : List Nat} (h : wi σ H fun J H1 => ∀ D, H1 D = none → ∃ W : Nat → Nat → Hp → Prop, (∃ m, W 0 m (upd H1 D (.lst []))) ∧ ∀ i m H, W i m H →
  (J.stop i H ∧ Q (.ref D) H) ∨ (J.go i H ∧ ∃ Nx : Hp → Prop, (∀ H', Nx H' → ∃ m', m' < m ∧ W (i + 1) m' H') ∧ ∀ x H', J.yld i H x H' → g x (wipe σ vs) H' fun σ2 H2 => wipe σ2 vs = wipe σ vs ∧ tt σ2 H2 fun b H3 =>
    if b = true then te σ2 H3 fun y H4 => ∃ acc, H4 D = some (.lst acc) ∧ acc.length < sizeLine ∧ Nx (upd H4 D (.lst (acc ++ [y]))) else Nx H3)) : tLc wi g tt te vs σ H Q := h
theorem r_yes {R : Bool → Hp → Prop} (h : R true H) : tYes σ H R := h
theorem r_tt {A B : Prop} (h : A) : if true = true then A else B := by rw [if_pos rfl]; exact h
theorem r_popAt {l : Addr} {xs : List V} {i : Int} {k : Nat} {y : V} (h1 : H l = some (.lst xs)) (h2 : i = (k : Int)) (h3 : xs[k]? = some y) (h4 : xs.length ≤ 4000) (h : Q y (upd H l (.lst (xs.eraseIdx k)))) : rPopAt (.ref l) [.int i] H Q := by
  have hk : k < xs.length := (List.getElem?_eq_some_iff.mp h3).1
  have e : ixN xs.length i = some k := by
    unfold ixN
    rw [if_pos (by omega), if_pos (by omega), h2, Int.toNat_natCast]
  exact ⟨l, xs, i, k, y, rfl, rfl, h1, by omega, by omega, (ixN_seq e).1, h3, h⟩
theorem r_lcR {lo : Int} {n : Nat} {g : TG} {tt : TT} {te : TE} {vs : List Nat} {D : Addr} {Qd : Hp → Prop} (Pv : Nat → Hp → Prop) (h0 : Pv 0 (upd H D (.lst [])))
    (hs : ∀ i H, i < n → Pv i H → g (.int (lo + i)) (wipe σ vs) H fun σ2 H2 => wipe σ2 vs = wipe σ vs ∧ tt σ2 H2 fun b H3 =>
      if b = true then te σ2 H3 fun y H4 => ∃ acc, H4 D = some (.lst acc) ∧ acc.length < sizeLine ∧ Pv (i + 1) (upd H4 D (.lst (acc ++ [y]))) else Pv (i + 1) H3) (hd : ∀ H, Pv n H → Qd H) :
    ∃ W : Nat → Nat → Hp → Prop, (∃ m, W 0 m (upd H D (.lst []))) ∧ ∀ i m H, W i m H →
      ((Itr lo n).stop i H ∧ Qd H) ∨ ((Itr lo n).go i H ∧ ∃ Nx : Hp → Prop, (∀ H', Nx H' → ∃ m', m' < m ∧ W (i + 1) m' H') ∧ ∀ x H', (Itr lo n).yld i H x H' → g x (wipe σ vs) H' fun σ2 H2 => wipe σ2 vs = wipe σ vs ∧ tt σ2 H2 fun b H3 =>
        if b = true then te σ2 H3 fun y H4 => ∃ acc, H4 D = some (.lst acc) ∧ acc.length < sizeLine ∧ Nx (upd H4 D (.lst (acc ++ [y]))) else Nx H3) :=
  lc_range (Qd := Qd) Pv h0 hs hd
theorem r_lcL {a : Addr} {xs : List V} {g : TG} {tt : TT} {te : TE} {vs : List Nat} {D : Addr} {Qd : Hp → Prop} (Pv : Nat → Hp → Prop) (h0 : Pv 0 (upd H D (.lst []))) (hl : ∀ i H, i ≤ xs.length → Pv i H → SqL K H a xs)
    (hs : ∀ i x H, xs[i]? = some x → Pv i H → g x (wipe σ vs) H fun σ2 H2 => wipe σ2 vs = wipe σ vs ∧ tt σ2 H2 fun b H3 =>
      if b = true then te σ2 H3 fun y H4 => ∃ acc, H4 D = some (.lst acc) ∧ acc.length < sizeLine ∧ Pv (i + 1) (upd H4 D (.lst (acc ++ [y]))) else Pv (i + 1) H3) (hd : ∀ H, Pv xs.length H → Qd H) :
    ∃ W : Nat → Nat → Hp → Prop, (∃ m, W 0 m (upd H D (.lst []))) ∧ ∀ i m H, W i m H →
      ((Itl K a).stop i H ∧ Qd H) ∨ ((Itl K a).go i H ∧ ∃ Nx : Hp → Prop, (∀ H', Nx H' → ∃ m', m' < m ∧ W (i + 1) m' H') ∧ ∀ x H', (Itl K a).yld i H x H' → g x (wipe σ vs) H' fun σ2 H2 => wipe σ2 vs = wipe σ vs ∧ tt σ2 H2 fun b H3 =>
        if b = true then te σ2 H3 fun y H4 => ∃ acc, H4 D = some (.lst acc) ∧ acc.length < sizeLine ∧ Nx (upd H4 D (.lst (acc ++ [y]))) else Nx H3) :=
  lc_list (Qd := Qd) Pv h0 hl hs hd
theorem r_true {c : Bool} {A B : Prop} (hc : c = true) (h : A) : if c = true then A else B := by rw [if_pos hc]; exact h
theorem r_false {c : Bool} {A B : Prop} (hc : c = false) (h : B) : if c = true then A else B := by rw [hc, if_neg (by decide)]; exact h
theorem len_is {n : Nat} {k : Int} (h : (n : Int) = k) : decide (V.int (n : Int) = V.int k) = true := decide_eq_true (by rw [h])
theorem len_not {n : Nat} {k : Int} (h : (n : Int) ≠ k) : decide (V.int (n : Int) = V.int k) = false := decide_eq_false fun z => h (V.int.inj z)
theorem r_lcZL {a b : Addr} {xs ys : List V} {g : TG} {tt : TT} {te : TE} {vs : List Nat} {D : Addr} {Qd : Hp → Prop} (hl : xs.length = ys.length) (Pv : Nat → Hp → Prop) (h0 : Pv 0 (upd H D (.lst []))) (hq : ∀ i H, Pv i H → SqL K H a xs ∧ SqL K H b ys)
    (hs : ∀ (i : Nat) (x y : V) (T : Addr) (H : Hp), xs[i]? = some x → ys[i]? = some y → Pv i H → H T = none → g (.ref T) (wipe σ vs) (upd H T (.tup [x, y])) fun σ2 H2 => wipe σ2 vs = wipe σ vs ∧ tt σ2 H2 fun b H3 =>
      if b = true then te σ2 H3 fun y H4 => ∃ acc, H4 D = some (.lst acc) ∧ acc.length < sizeLine ∧ Pv (i + 1) (upd H4 D (.lst (acc ++ [y]))) else Pv (i + 1) H3) (hd : ∀ H, Pv xs.length H → Qd H) :
    ∃ W : Nat → Nat → Hp → Prop, (∃ m, W 0 m (upd H D (.lst []))) ∧ ∀ i m H, W i m H →
      ((Itz K a b).stop i H ∧ Qd H) ∨ ((Itz K a b).go i H ∧ ∃ Nx : Hp → Prop, (∀ H', Nx H' → ∃ m', m' < m ∧ W (i + 1) m' H') ∧ ∀ x H', (Itz K a b).yld i H x H' → g x (wipe σ vs) H' fun σ2 H2 => wipe σ2 vs = wipe σ vs ∧ tt σ2 H2 fun b H3 =>
        if b = true then te σ2 H3 fun y H4 => ∃ acc, H4 D = some (.lst acc) ∧ acc.length < sizeLine ∧ Nx (upd H4 D (.lst (acc ++ [y]))) else Nx H3) := by
  refine ⟨fun i m H => m = xs.length - i ∧ i ≤ xs.length ∧ Pv i H, ⟨xs.length, rfl, Nat.zero_le _, h0⟩, ?_⟩
  rintro i m H ⟨rfl, hi, p⟩
  obtain ⟨qx, qy⟩ := hq i H p
  by_cases hlt : i < xs.length
  · have hx : xs[i]? = some xs[i] := List.getElem?_eq_getElem hlt
    have hlt2 : i < ys.length := by omega
    have hy : ys[i]? = some ys[i] := List.getElem?_eq_getElem hlt2
    refine .inr ⟨⟨xs, ys, _, _, qx, qy, hx, hy⟩, Pv (i + 1), fun H' p' => ⟨xs.length - (i + 1), by omega, rfl, hlt, p'⟩, fun v H' y => ?_⟩
    obtain ⟨T, x', y', rfl, hT, rfl, f1, f2⟩ := y
    exact hs i x' y' T _ (f1 xs qx) (f2 ys qy) p hT
  · have e : i = xs.length := by omega
    subst e
    exact .inl ⟨⟨xs, ys, qx, qy, .inl (Nat.le_refl _)⟩, hd H p⟩
theorem r_lcZT {a b : Addr} {xs ys : List V} {g : TG} {tt : TT} {te : TE} {vs : List Nat} {D : Addr} {Qd : Hp → Prop} (hl : xs.length = ys.length) (Pv : Nat → Hp → Prop) (h0 : Pv 0 (upd H D (.lst []))) (hq : ∀ i H, Pv i H → SqT K H a xs ∧ SqT K H b ys)
    (hs : ∀ (i : Nat) (x y : V) (T : Addr) (H : Hp), xs[i]? = some x → ys[i]? = some y → Pv i H → H T = none → g (.ref T) (wipe σ vs) (upd H T (.tup [x, y])) fun σ2 H2 => wipe σ2 vs = wipe σ vs ∧ tt σ2 H2 fun b H3 =>
      if b = true then te σ2 H3 fun y H4 => ∃ acc, H4 D = some (.lst acc) ∧ acc.length < sizeLine ∧ Pv (i + 1) (upd H4 D (.lst (acc ++ [y]))) else Pv (i + 1) H3) (hd : ∀ H, Pv xs.length H → Qd H) :
    ∃ W : Nat → Nat → Hp → Prop, (∃ m, W 0 m (upd H D (.lst []))) ∧ ∀ i m H, W i m H →
      ((RZ.ItzT K a b).stop i H ∧ Qd H) ∨ ((RZ.ItzT K a b).go i H ∧ ∃ Nx : Hp → Prop, (∀ H', Nx H' → ∃ m', m' < m ∧ W (i + 1) m' H') ∧ ∀ x H', (RZ.ItzT K a b).yld i H x H' → g x (wipe σ vs) H' fun σ2 H2 => wipe σ2 vs = wipe σ vs ∧ tt σ2 H2 fun b H3 =>
        if b = true then te σ2 H3 fun y H4 => ∃ acc, H4 D = some (.lst acc) ∧ acc.length < sizeLine ∧ Nx (upd H4 D (.lst (acc ++ [y]))) else Nx H3) := by
  refine ⟨fun i m H => m = xs.length - i ∧ i ≤ xs.length ∧ Pv i H, ⟨xs.length, rfl, Nat.zero_le _, h0⟩, ?_⟩
  rintro i m H ⟨rfl, hi, p⟩
  obtain ⟨qx, qy⟩ := hq i H p
  by_cases hlt : i < xs.length
  · have hx : xs[i]? = some xs[i] := List.getElem?_eq_getElem hlt
    have hlt2 : i < ys.length := by omega
    have hy : ys[i]? = some ys[i] := List.getElem?_eq_getElem hlt2
    refine .inr ⟨⟨xs, ys, _, _, qx, qy, hx, hy⟩, Pv (i + 1), fun H' p' => ⟨xs.length - (i + 1), by omega, rfl, hlt, p'⟩, fun v H' y => ?_⟩
    obtain ⟨T, x', y', rfl, hT, rfl, f1, f2⟩ := y
    exact hs i x' y' T _ (f1 xs qx) (f2 ys qy) p hT
  · have e : i = xs.length := by omega
    subst e
    exact .inl ⟨⟨xs, ys, qx, qy, .inl (Nat.le_refl _)⟩, hd H p⟩
theorem tyT {a : Addr} {xs : List V} (h : SqT K H a xs) : TyX K H (.ref a) (.type "tuple") := by
  rcases h with (h | ⟨o, h⟩) | ⟨o, its, n, h, c, _⟩
  · exact .base (.tup h)
  · exact .fTuple h
  · exact .kTuple h c
theorem tyL {a : Addr} {xs : List V} (h : SqL K H a xs) : TyX K H (.ref a) (.type "list") := by
  rcases h with (h | ⟨o, h⟩) | ⟨o, its, n, h, c, _⟩
  · exact .base (.lst h)
  · exact .base (.frz h)
  · exact .kList h c
theorem r_isi {T c : String} {b : Bool} (ht : TyX K H x (.type T)) (he : PySem.W.kitOne K (.type T) (.type c) = some b) (h : Q (.bl b) H) : rIsi K [x, .ty c] H Q := ⟨x, .ty c, .type T, .type c, b, rfl, .ty c, ht, he, h⟩
theorem r_isiT {T c1 c2 : String} {b : Bool} {p : Addr} (hp : H p = some (.tup [.ty c1, .ty c2])) (ht : TyX K H x (.type T)) (he : PySem.W.kitAny K (.type T) [.type c1, .type c2] = some b) (h : Q (.bl b) H) : rIsiT K [x, .ref p] H Q :=
  ⟨x, p, [.ty c1, .ty c2], .type T, [.type c1, .type c2], b, rfl, hp, .cons (.ty c1) (.cons (.ty c2) .nil), ht, he, h⟩
theorem r_andV (h : ta σ H fun x H1 => ∃ c, x = .bl c ∧ if c = true then tb σ H1 Q else Q (.bl false) H1) : tAndV ta tb σ H Q := h
theorem r_orV (h : ta σ H fun x H1 => ∃ c, x = .bl c ∧ if c = true then Q (.bl true) H1 else tb σ H1 Q) : tOrV ta tb σ H Q := h
theorem r_notV (h : ta σ H fun x H1 => ∃ c, x = .bl c ∧ Q (.bl (!c)) H1) : tNotV ta σ H Q := h
theorem r_all {a : Addr} {bs : List Bool} (h1 : SqL K H a (bs.map V.bl)) (h : Q (.bl (bs.all id)) H) : rAll K [.ref a] H Q := ⟨a, bs, rfl, h1, h⟩
theorem r_any {a : Addr} {bs : List Bool} (h1 : SqL K H a (bs.map V.bl)) (h : Q (.bl (bs.any id)) H) : rAny K [.ref a] H Q := ⟨a, bs, rfl, h1, h⟩
theorem r_iZip {ta : TA} {R : It → Hp → Prop} (h : ta σ H fun vs H1 => ∃ a b xs ys, vs = [.ref a, .ref b] ∧ ((SqL K H1 a xs ∧ SqL K H1 b ys ∧ R (Itz K a b) H1) ∨ (SqT K H1 a xs ∧ SqT K H1 b ys ∧ R (RZ.ItzT K a b) H1))) : RZ.iZipA K ta σ H R := h
theorem r_while (W : Nat → L2.St → Hp → Prop) (m : Nat) (h0 : W m σ H) (hs : ∀ m σ H, W m σ H → c σ H fun b H1 => if b = true then ∃ N : L2.St → Hp → Prop, (∀ σ' H', N σ' H' → ∃ m', m' < m ∧ W m' σ' H') ∧ t ⟨N, rt, nx, N⟩ σ H1 else nx σ H1) : tWhile c t ⟨nx, rt, bk, ct⟩ σ H :=
  ⟨W, ⟨m, h0⟩, hs⟩
theorem r_slL {te : TE} {tl th : TO} {r : V → Option Int → Option Int → Hp → VK → Prop} (h : te σ H fun x H1 => tl σ H1 fun l H2 => th σ H2 fun u H3 => r x l u H3 Q) : tSl r te tl th σ H Q := h
theorem r_noP {R : Option Int → Hp → Prop} (h : R none H) : tNoPart σ H R := h
theorem r_part {te : TE} {R : Option Int → Hp → Prop} (h : te σ H fun x H1 => ∃ i, x = .int i ∧ R (some i) H1) : tPart te σ H R := h
theorem r_exI {i : Int} {R : Int → Prop} (h : R i) : ∃ j, V.int i = .int j ∧ R j := ⟨i, rfl, h⟩
theorem r_slList {a : Addr} {xs : List V} {lo hi : Option Int} (h1 : SqL K H a xs) (h : ∀ p, H p = none → Q (.ref p) (upd H p (.lst (cutV xs lo hi)))) : rSlL K (.ref a) lo hi H Q := ⟨a, xs, rfl, h1, h⟩
theorem r_setL {p : Addr} {xs : List V} {k : Int} {j : Nat} {R : Hp → Prop} (h1 : H p = some (.lst xs)) (h2 : ixN xs.length k = some j) (h : R (upd H p (.lst (xs.set j v)))) : rSetL (.ref p) (.int k) v H R := ⟨p, xs, k, j, rfl, rfl, h1, h2, h⟩
theorem r_int {i : Int} {R : Int → Prop} {B : Prop} (h : R i) : (∃ j, [V.int i] = [.int j] ∧ R j) ∨ B := .inl ⟨i, rfl, h⟩
theorem r_len {p : Addr} {ys : List V} (h1 : SqL K H p ys ∨ SqT K H p ys) (h : Q (.int ys.length) H) : rLn K [.ref p] H Q := ⟨p, ys, rfl, h1, h⟩
theorem r_list {p : Addr} {ys : List V} (h1 : SqL K H p ys ∨ SqT K H p ys) (h : ∀ l, H l = none → Q (.ref l) (upd H l (.lst ys))) : rLs K [.ref p] H Q := ⟨p, ys, rfl, h1, h⟩
end
section
variable {X : Cx}
/-- a statement, then the rest, a word of one's own between them -/
def tMid (t u : TS) : TS := fun D σ H => ∃ M : L2.St → Hp → Prop, t ⟨M, D.rt, D.bk, D.ct⟩ σ H ∧ ∀ σ' H', M σ' H' → u D σ' H'
theorem pss_mid {st : Stmt} {rest : List Stmt} {t u : TS} (h1 : PS X st t) (h2 : PSs X rest u) : PSs X (st :: rest) (tMid t u) := by
  refine ⟨fun pins s σ H D I h => ?_⟩
  obtain ⟨M, hm, hu⟩ := h
  refine wpAny_execs_cons (thn (h1.run pins s σ H ⟨M, D.rt, D.bk, D.ct⟩ I hm) fun f s1 q => ?_)
  cases f with
  | next =>
    obtain ⟨σ', H', I', q⟩ := q
    exact h2.run pins s1 σ' H' D I' (hu σ' H' q)
  | ret v => exact q
  | brk => exact q
  | cont => exact q
theorem r_mid {t u : TS} {nx : L2.St → Hp → Prop} {rt : VK} {bk ct : L2.St → Hp → Prop} {σ : L2.St} {H : Hp} (M : L2.St → Hp → Prop) (h1 : t ⟨M, rt, bk, ct⟩ σ H) (h2 : ∀ σ' H', M σ' H' → u ⟨nx, rt, bk, ct⟩ σ' H') : tMid t u ⟨nx, rt, bk, ct⟩ σ H := ⟨M, h1, h2⟩
/-- a store into a list: the heap behind it by a name -/
theorem r_setB {K : PySem.W.Frag} {H : Hp} {b : Addr} {l : List V} {k : Int} {j : Nat} {v : V} {R : Hp → Prop} (h1 : H b = some (.lst l)) (h2 : ixN l.length k = some j) (l' : List V) (h3 : l.set j v = l')
    (h : ∀ H1, H1 b = some (.lst l') → Ext [b] H H1 → (∀ a xs, SqL K H a xs → xs ≠ l → SqL K H1 a xs) → R H1) : rSetL (.ref b) (.int k) v H R := by
  refine ⟨b, l, k, j, rfl, rfl, h1, h2, h _ ?_ (Ext.refl.at_ List.mem_cons_self) fun a xs q hd => ?_⟩
  · rw [h3]
    exact upd_same
  · rcases q with (q | ⟨u, q⟩) | q
    · exact .inl (.inl (by rw [upd_ne (fun z => hd (by rw [z, h1] at q; cases q; rfl))]; exact q))
    · exact .inl (.inr ⟨u, by rw [upd_ne (fun z => by rw [z, h1] at q; cases q)]; exact q⟩)
    · exact .inr q
end
section
variable {P : Program} {w : World} {K : PySem.W.Frag} {mg : Str → Option Value} {base : Heap}
/-- def f(a, .., *v) -/
theorem fn_star {x pv : Str} {params : Arguments} {body : List Stmt} {scope : Scope} {f : Addr} {fd : FuncData} {N ps : List Str} {k : Nat} {sp sp' : Sp}
    (F : FunD K x x params body scope [] [] f fd) (hm : mg x = some (.ref f)) (S : FnScope N (ps ++ [pv]) scope)
    (hb : ∀ (kV doc pm : Value) (an : Option Addr) (cdv ct : Value) (us rest : List Value), us.length = ps.length → bindArgs (PySem.W.fnOf x x params body scope .none kV doc pm an cdv ct) ⟨us ++ rest, []⟩ = (newTuple rest >>= fun t => pure (ps.zip us ++ [(pv, t)])))
    (hbody : ∀ (cdv : Value) (A : Around) (outer : List Env) (s : Shared) (H : Hp) (vs : List V) (Q : VK) (E : XK), Room k (A.deeper (envOfC x scope s.heap.objs.size f cdv)) → sp vs H Q E →
      ∃ t, PSs (cxOf CX0 P w K mg base N x scope f cdv A outer s H E).nox body t ∧ t ⟨fun _ H' => Q .non H', Q, fun _ _ => False, fun _ _ => False⟩ (start N vs) H)
    (himp : ∀ vs H Q E, sp' vs H Q E → ∃ ws rest, vs = ws ++ rest ∧ ws.length = ps.length ∧ rest.length ≤ sizeLine ∧ ∀ p, H p = none → sp (ws ++ [V.ref p]) (upd H p (.tup rest)) Q E) : Fn P w K mg base (k + 1) x sp' := by
  have kp := F.kp
  obtain ⟨oc, od, dV, kV, doc, pm, an, cdv, ct, osl, rfl, lk, hcd, hD, _⟩ := F.ex
  rcases hD with ⟨_, rfl⟩ | ⟨e, _⟩
  · have R := StX.fn_star (P := P) (w := w) (mg := mg) (base := base) (sp := sp) lk hcd S StX.cxUp_none (hb kV doc pm an cdv ct) (fun A outer s H vs Q E hr h => let ⟨t, h1, h2⟩ := hbody cdv A outer s H vs Q E hr h; ⟨t, h1.nox, h2⟩)
    exact ⟨f, hm, kp, R.imp himp⟩
  · exact absurd rfl e
end
end Yk

set_option maxHeartbeats 1000000
/-! Calls by name: two parameters, told in the other order. -/
namespace Yk
open PySem PySem.Spec PyProof.Rows L2
def sw2 {α : Type} (us ws : List α) : List α := match us, ws with
  | [], [a, b] => [b, a]
  | _, _ => []
theorem sw2_rel {vs : List V} {us : List Value} {zs : List V} {ws : List Value} (h1 : Vals vs us) (h2 : Vals zs ws) : Vals (sw2 vs zs) (sw2 us ws) := by
  cases h1 with
  | cons a b => exact .nil
  | nil =>
    cases h2 with
    | nil => exact .nil
    | cons a h2 =>
      cases h2 with
      | nil => exact .nil
      | cons b h2 =>
        cases h2 with
        | nil => exact .cons b (.cons a .nil)
        | cons c h2 => exact .nil
section
variable (P : Program) (w : World) (K : PySem.W.Frag) (mg : Str → Option Value) (base : Heap)
structure FnS (k : Nat) (x : Str) (ks : List Str) (sp : Sp) : Prop where
  run : ∃ f fd ps, mg x = some (.ref f) ∧ PySem.W.keepIn K (.ref f) = true ∧ FnOk P w K mg base CX0 k f fd ps sp ∧ KBinds K fd ps ks sw2 sw2
end
section
variable {P : Program} {w : World} {K : PySem.W.Frag} {mg : Str → Option Value} {base : Heap} {f : Addr} {fd : FuncData}
theorem ok_def {x : Str} {params : Arguments} {body : List Stmt} {scope : Scope} {N ps : List Str} {k : Nat} {sp : Sp}
    (F : FunD K x x params body scope [] [] f fd) (S : FnScope N ps scope) (len : ∀ vs H Q E, sp vs H Q E → vs.length = ps.length)
    (hbody : ∀ (cdv : Value) (A : Around) (outer : List Env) (s : Shared) (H : Hp) (vs : List V) (Q : VK) (E : XK), Room k (A.deeper (envOfC x scope s.heap.objs.size f cdv)) → sp vs H Q E →
      ∃ t, PSs (cxOf CX0 P w K mg base N x scope f cdv A outer s H E).nox body t ∧ t ⟨fun _ H' => Q .non H', Q, fun _ _ => False, fun _ _ => False⟩ (start N vs) H) : FnOk P w K mg base CX0 (k + 1) f fd ps sp :=
  F.ok S len fun cdv A outer s H vs Q E hr h => by
    obtain ⟨t, h1, h2⟩ := hbody cdv A outer s H vs Q E hr h
    exact ⟨t, h1.nox, h2⟩
theorem fn_none {x : Str} {params : Arguments} {body : List Stmt} {scope : Scope} (F : FunD K x x params body scope [] [] f fd) {k : Nat} (hm : mg x = some (.ref f)) : Fn P w K mg base k x (fun _ _ _ _ => False) :=
  ⟨f, hm, F.kp, fun _ _ _ _ _ _ _ _ _ _ _ h => h.elim⟩
theorem fn_of_ok {x : Str} {params : Arguments} {body : List Stmt} {scope : Scope} {ps : List Str} {k : Nat} {sp : Sp}
    (F : FunD K x x params body scope [] [] f fd) (hm : mg x = some (.ref f)) (G : FnOk P w K mg base CX0 k f fd ps sp)
    (hb : ∀ (kV doc pm : Value) (an : Option Addr) (cdv ct : Value) (us : List Value), us.length = ps.length → bindArgs (PySem.W.fnOf x x params body scope .none kV doc pm an cdv ct) ⟨us, []⟩ = pure (ps.zip us)) : Fn P w K mg base k x sp := by
  have b := F.bindsN hb
  have R := G.raw b .nil
  refine ⟨f, hm, F.kp, R.imp fun vs H Q E h => ?_⟩
  rw [List.append_nil]
  exact h
theorem fs_of_ok {x p1 p2 : Str} {params : Arguments} {body : List Stmt} {scope : Scope} {k : Nat} {sp : Sp}
    (F : FunD K x x params body scope [] [] f fd) (hm : mg x = some (.ref f)) (G : FnOk P w K mg base CX0 k f fd [p1, p2] sp)
    (hb : ∀ (kV doc pm : Value) (an : Option Addr) (cdv ct : Value) (a b : Value), bindArgs (PySem.W.fnOf x x params body scope .none kV doc pm an cdv ct) ⟨[], [(p2, a), (p1, b)]⟩ = pure [(p1, b), (p2, a)]) : FnS P w K mg base k x [p2, p1] sp := by
  refine ⟨f, fd, [p1, p2], hm, F.kp, G, ⟨fun s us ws hK hl => ?_, sw2_rel⟩⟩
  obtain ⟨oc, od, dV, kV, doc, pm, an, cdv, ct, osl, rfl, lk, hcd, hD, _⟩ := F.ex
  rcases hD with ⟨_, rfl⟩ | ⟨e, _⟩
  · match us, ws, hl with
    | [], [a, b], _ => exact .of_eq (hb kV doc pm an cdv ct a b)
    | [], [], h => cases h
    | [], [_], h => cases h
    | [], _ :: _ :: _ :: _, h => cases h
    | _ :: _, _, h => cases h
  · exact absurd rfl e
end
section
variable {X : Cx} {k : Nat} {sp : Sp} {x : Str} {p pos : Pos} {ks : List Str} {kws : List Keyword} {tk : TA}
def tRS (sp : Sp) (tk : TA) : TE := fun σ H Q => tk σ H fun zs H1 => ∃ a b, zs = [a, b] ∧ sp [b, a] H1 Q E0
theorem r_RS {σ : L2.St} {H : Hp} {Q : VK} (h : tk σ H fun zs H1 => ∃ a b, zs = [a, b] ∧ sp [b, a] H1 Q E0) : tRS sp tk σ H Q := h
theorem pe_fnS (F : FnS X.prog X.w X.K X.mg X.base k x ks sp) (hr : Room k X.A) (hkw : PK X kws tk) (hg : Gl X x := by rfl) (hdb : (x == ("__debug__" : Str)) = false := by decide)
    (hx : Passes CX0 X E0 := by exact pass0)
    (hall : (backToKw pos (keywordEach kws X.env)).all (·.1.isSome) = true := by rfl) (hks : (backToKw pos (keywordEach kws X.env)).filterMap (·.1) = ks := by rfl)
    (hpl : ((backTo pos (starEach [] X.env)).any (·.1) || (backToKw pos (keywordEach kws X.env)).any (·.1.isNone)) = false := by rfl) :
    PE X (.Call (.Name x p) [] kws pos) (tRS sp tk) := by
  obtain ⟨f, fd, ps, hm, hk, F, hb⟩ := F.run
  refine ⟨fun pins s σ H Q I h => ?_⟩
  refine wpAny_Call_Name_kw (ld_glob I hg hm ?_ hdb)
  refine PySem.W.callWith_KW0 (h₀ := X.base) I.ok.mod.kin hk hall ?_ hpl
  refine thn (hkw.run pos pins s σ H _ I h) fun ws s2 ⟨zs, H2, I2, rz, a, b, ez, q2⟩ => ⟨I2.kIn, ?_⟩
  rw [hks]
  subst ez
  exact run_fnk (us := []) (vs := []) (g := sw2) (gV := sw2) F hr hb hx I2 .nil rz q2
end

/-! stars, and what is a list or a tuple -/
section
variable {X : Cx} {k : Nat} {sp : Sp} {x : Str} {p sp_ pos : Pos} {e : Expr} {es : List Expr} {te : TE} {t : TA}
def tR1 (K : PySem.W.Frag) (sp : Sp) (te : TE) : TE := fun σ H Q => te σ H fun y H1 => ∃ a xs, y = V.ref a ∧ (SqT K H1 a xs ∨ SqL K H1 a xs) ∧ sp xs H1 Q E0
theorem r_R1 {K : PySem.W.Frag} {σ : L2.St} {H : Hp} {Q : VK} (h : te σ H fun y H1 => ∃ a xs, y = V.ref a ∧ (SqT K H1 a xs ∨ SqL K H1 a xs) ∧ sp xs H1 Q E0) : tR1 K sp te σ H Q := h
theorem r_star {K : PySem.W.Frag} {σ : L2.St} {H : Hp} {R : List V → Hp → Prop} (h : te σ H fun x H1 => ∃ p xs, x = V.ref p ∧ (SqT K H1 p xs ∨ SqL K H1 p xs) ∧ t σ H1 fun ys H2 => R (xs ++ ys) H2) : StX.tStar K te t σ H R := h
theorem pe_fnS1 (F : Fn X.prog X.w X.K X.mg X.base k x sp) (hr : Room k X.A) (he : PE X e te) (hg : Gl X x := by rfl) (hdb : (x == ("__debug__" : Str)) = false := by decide) (hx : Passes CX0 X E0 := by exact pass0)
    (hst : starEach [.Starred e sp_] X.env = [(true, eval e X.env)] := by rfl) : PE X (.Call (.Name x p) [.Starred e sp_] [] pos) (tR1 X.K sp te) := by
  obtain ⟨f, hm, hk, F⟩ := F.run
  exact StX.pe_callS1 F hr hk hg hm hx he hdb hst
theorem pe_fnS2 (F : Fn X.prog X.w X.K X.mg X.base k x sp) (hr : Room k X.A) (ha : PA X (e :: es) t) (hg : Gl X x := by rfl) (hdb : (x == ("__debug__" : Str)) = false := by decide) (hx : Passes CX0 X E0 := by exact pass0)
    (he : starEach (e :: es) X.env = (false, eval e X.env) :: starEach es X.env := by rfl) (hst : (backTo pos (starEach es X.env)).any (·.1) = true := by rfl) : PE X (.Call (.Name x p) (e :: es) [] pos) (tR sp t) := by
  obtain ⟨f, hm, hk, F⟩ := F.run
  exact StX.pe_callS2 F hr hk hg hm hx ha hdb he hst
def iSeq (K : PySem.W.Frag) (tl : TE) : TI := fun σ H R => iList K tl σ H R ∨ iTup K tl σ H R
theorem pi_seq {tg l : Expr} {tl : TE} (hl : PE X l tl) : PI X tg l (iSeq X.K tl) :=
  ⟨fun pins s σ H R I h => h.elim (fun h => (pi_list hl).run pins s σ H R I h) (fun h => (pi_tup hl).run pins s σ H R I h)⟩
end
section
variable {K : PySem.W.Frag} {nx : L2.St → Hp → Prop} {rt : VK} {bk ct : L2.St → Hp → Prop} {σ : L2.St} {H : Hp} {Q : VK} {g : TG} {tt : TT} {te : TE} {t : TS} {vs : List Nat}
/-- carried on: what is a list or a tuple at a -/
def Kp (K : PySem.W.Frag) (a : Addr) (xs : List V) (H H2 : Hp) : Prop := (SqL K H a xs → SqL K H2 a xs) ∧ (SqT K H a xs → SqT K H2 a xs)
theorem kp0 {a : Addr} {xs : List V} {H2 : Hp} (e : Ext [] H H2) : Kp K a xs H H2 := ⟨lst0 e, tup0 e⟩
theorem Kp.trans {a : Addr} {xs : List V} {H1 H2 : Hp} (h : Kp K a xs H H1) (g : Kp K a xs H1 H2) : Kp K a xs H H2 := ⟨fun z => g.1 (h.1 z), fun z => g.2 (h.2 z)⟩
abbrev SqQ (K : PySem.W.Frag) (H : Hp) (a : Addr) (xs : List V) : Prop := SqL K H a xs ∨ SqT K H a xs
theorem Kp.q {a : Addr} {xs : List V} {H2 : Hp} (h : Kp K a xs H H2) (z : SqQ K H a xs) : SqQ K H2 a xs := z.elim (fun z => .inl (h.1 z)) fun z => .inr (h.2 z)
theorem sqq0 {a : Addr} {xs : List V} {H2 : Hp} (e : Ext [] H H2) (h : SqQ K H a xs) : SqQ K H2 a xs := (kp0 e).q h
theorem r_lcQ {i : Nat} {a : Addr} {xs : List V} {Qd : Addr → Hp → Prop} {H0 : Hp} (h1 : σ[i]? = some (some (.ref a))) (h2 : SqQ K H0 a xs) (hk : Kp K a xs H0 H) (h : ∀ D, H D = none → ∃ Pv : Nat → Hp → Prop, Pv 0 (upd H D (.lst [])) ∧ (∀ j H2, Pv j H2 → Kp K a xs H0 H2) ∧
    (∀ j x H, xs[j]? = some x → Pv j H → g x (wipe σ vs) H fun σ2 H2 => wipe σ2 vs = wipe σ vs ∧ tt σ2 H2 fun b H3 =>
      if b = true then te σ2 H3 fun y H4 => ∃ acc, H4 D = some (.lst acc) ∧ acc.length < sizeLine ∧ Pv (j + 1) (upd H4 D (.lst (acc ++ [y]))) else Pv (j + 1) H3) ∧ ∀ H, Pv xs.length H → Qd D H) :
    iSeq K (tVar i) σ H fun J H1 => ∀ D, H1 D = none → ∃ W : Nat → Nat → Hp → Prop, (∃ m, W 0 m (upd H1 D (.lst []))) ∧ ∀ i m H, W i m H →
      (J.stop i H ∧ Qd D H) ∨ (J.go i H ∧ ∃ Nx : Hp → Prop, (∀ H', Nx H' → ∃ m', m' < m ∧ W (i + 1) m' H') ∧ ∀ x H', J.yld i H x H' → g x (wipe σ vs) H' fun σ2 H2 => wipe σ2 vs = wipe σ vs ∧ tt σ2 H2 fun b H3 =>
        if b = true then te σ2 H3 fun y H4 => ∃ acc, H4 D = some (.lst acc) ∧ acc.length < sizeLine ∧ Nx (upd H4 D (.lst (acc ++ [y]))) else Nx H3) := by
  rcases h2 with h2 | h2
  · refine Or.inl ⟨_, h1, a, rfl, ⟨xs, hk.1 h2⟩, fun D hD => ?_⟩
    obtain ⟨Pv, p0, pk, ps, pd⟩ := h D hD
    exact lc_list (Qd := Qd D) Pv p0 (fun j H2 _ p => (pk j H2 p).1 h2) ps pd
  · refine Or.inr ⟨_, h1, a, rfl, ⟨xs, hk.2 h2⟩, fun D hD => ?_⟩
    obtain ⟨Pv, p0, pk, ps, pd⟩ := h D hD
    exact lc_tup (Qd := Qd D) Pv p0 (fun j H2 _ p => (pk j H2 p).2 h2) ps pd
theorem r_forQ {i : Nat} {a : Addr} {xs : List V} {H0 : Hp} (h1 : σ[i]? = some (some (.ref a))) (h2 : SqQ K H0 a xs) (hk : Kp K a xs H0 H) (Pv : Nat → L2.St → Hp → Prop) (h0 : Pv 0 σ H) (hl : ∀ i σ H2, i ≤ xs.length → Pv i σ H2 → Kp K a xs H0 H2)
    (hs : ∀ i x σ H, xs[i]? = some x → Pv i σ H → g x σ H fun σ2 H2 => t ⟨Pv (i + 1), rt, nx, Pv (i + 1)⟩ σ2 H2) (hd : ∀ σ H, Pv xs.length σ H → nx σ H) : tFor (iSeq K (tVar i)) g t ⟨nx, rt, bk, ct⟩ σ H := by
  rcases h2 with h2 | h2
  · exact Or.inl ⟨_, h1, a, rfl, ⟨xs, hk.1 h2⟩, for_list (D := ⟨nx, rt, nx, nx⟩) Pv h0 (fun i σ H2 z p => (hl i σ H2 z p).1 h2) hs hd⟩
  · exact Or.inr ⟨_, h1, a, rfl, ⟨xs, hk.2 h2⟩, for_tup (D := ⟨nx, rt, nx, nx⟩) Pv h0 (fun i σ H2 z p => (hl i σ H2 z p).2 h2) hs hd⟩
end
/-! rows that go together -/
section
variable {α β : Type}
def Rel (R : V → α → Prop) (xs : List V) (rs : List α) : Prop := xs.length = rs.length ∧ ∀ (i : Nat) (v : V) (r : α), xs[i]? = some v → rs[i]? = some r → R v r
variable {R R' : V → α → Prop} {xs ys : List V} {rs ts : List α}
theorem Rel.nil : Rel R [] [] := ⟨rfl, fun i v q h => by simp at h⟩
theorem Rel.cons {v : V} {r : α} (h : R v r) (g : Rel R xs rs) : Rel R (v :: xs) (r :: rs) := by
  refine ⟨by simp [g.1], fun i w u a b => ?_⟩
  cases i with
  | zero =>
    simp at a b
    subst a b
    exact h
  | succ i =>
    simp at a b
    exact g.2 i w u a b
theorem Rel.imp (h : Rel R xs rs) (f : ∀ v r, R v r → R' v r) : Rel R' xs rs := ⟨h.1, fun i v r a b => f v r (h.2 i v r a b)⟩
theorem Rel.impM (h : Rel R xs rs) (f : ∀ v r, r ∈ rs → R v r → R' v r) : Rel R' xs rs := ⟨h.1, fun i v r a b => f v r (List.mem_of_getElem? b) (h.2 i v r a b)⟩
theorem Rel.at_ (h : Rel R xs rs) {i : Nat} {v : V} (hv : xs[i]? = some v) : ∃ r, rs[i]? = some r ∧ R v r := by
  have hi : i < rs.length := by rw [← h.1]; exact (List.getElem?_eq_some_iff.mp hv).1
  exact ⟨rs[i], List.getElem?_eq_getElem hi, h.2 i v _ hv (List.getElem?_eq_getElem hi)⟩
theorem Rel.app (h : Rel R xs rs) (g : Rel R ys ts) : Rel R (xs ++ ys) (rs ++ ts) := by
  refine ⟨by rw [List.length_append, List.length_append, h.1, g.1], fun j v q a b => ?_⟩
  by_cases hj : j < xs.length
  · rw [List.getElem?_append_left hj] at a
    rw [List.getElem?_append_left (by rw [← h.1]; exact hj)] at b
    exact h.2 j v q a b
  · rw [List.getElem?_append_right (by omega)] at a
    rw [List.getElem?_append_right (by rw [← h.1]; omega), ← h.1] at b
    exact g.2 _ v q a b
theorem Rel.hd {v : V} {r : α} (h : Rel R (v :: xs) (r :: rs)) : R v r := h.2 0 v r rfl rfl
theorem Rel.tl {v : V} {r : α} (h : Rel R (v :: xs) (r :: rs)) : Rel R xs rs := ⟨by simpa using h.1, fun i w u a b => h.2 (i + 1) w u (by simpa using a) (by simpa using b)⟩
theorem Rel.cases {v : V} (h : Rel R (v :: xs) rs) : ∃ r t, rs = r :: t ∧ R v r ∧ Rel R xs t := by
  cases rs with
  | nil => exact absurd h.1 (by simp)
  | cons r t => exact ⟨r, t, rfl, h.hd, h.tl⟩
theorem Rel.take (h : Rel R xs rs) (n : Nat) : Rel R (xs.take n) (rs.take n) := by
  refine ⟨by rw [List.length_take, List.length_take, h.1], fun j v q a b => ?_⟩
  rw [List.getElem?_take] at a b
  split at a
  · rename_i hj
    rw [if_pos hj] at b
    exact h.2 j v q a b
  · cases a
theorem Rel.drop (h : Rel R xs rs) (n : Nat) : Rel R (xs.drop n) (rs.drop n) := by
  refine ⟨by rw [List.length_drop, List.length_drop, h.1], fun j v q a b => ?_⟩
  rw [List.getElem?_drop] at a b
  exact h.2 _ v q a b
theorem Rel.perm (p : ys.Perm xs) : ∀ {rs : List α}, Rel R xs rs → ∃ ts, Rel R ys ts ∧ ts.Perm rs := by
  induction p with
  | nil => exact fun {rs} h => ⟨rs, h, List.Perm.refl _⟩
  | cons x _ ih =>
    intro rs h
    obtain ⟨r, t, rfl, a, b⟩ := h.cases
    obtain ⟨ts, c, d⟩ := ih b
    exact ⟨r :: ts, .cons a c, d.cons r⟩
  | swap x y l =>
    intro rs h
    obtain ⟨r1, t, rfl, a, b⟩ := h.cases
    obtain ⟨r2, t, rfl, c, d⟩ := b.cases
    exact ⟨r2 :: r1 :: t, .cons c (.cons a d), List.Perm.swap r1 r2 t⟩
  | trans _ _ ih1 ih2 =>
    intro rs h
    obtain ⟨ts, a, b⟩ := ih2 h
    obtain ⟨us, c, d⟩ := ih1 a
    exact ⟨us, c, d.trans b⟩
theorem Rel.snoc {v : V} {r : α} (h : Rel R xs rs) (g : R v r) : Rel R (xs ++ [v]) (rs ++ [r]) := h.app (.cons g .nil)
end
/-! steps -/
section
variable {K : PySem.W.Frag} {nx : L2.St → Hp → Prop} {rt : VK} {bk ct : L2.St → Hp → Prop} {σ : L2.St} {H : Hp} {Q : VK} {te : TE} {x y : V}
theorem r_app {l : Addr} {xs : List V} (h1 : H l = some (.lst xs)) (h2 : xs.length ≤ 4000) (h : Q .non (upd H l (.lst (xs ++ [y])))) : rAppend (.ref l) [y] H Q := ⟨l, xs, y, rfl, rfl, h1, Nat.lt_of_le_of_lt h2 (by decide), h⟩
theorem ty_lst {l : Addr} {xs : List V} (h : H l = some (.lst xs)) : tyV K "list" (.ref l) H := .inl ⟨rfl, xs, .inl (.inl h)⟩
theorem r_aug {i : Nat} {ti : TIp} (h1 : σ[i]? = some (some x)) (h : te σ H fun y H1 => ti x y H1 fun z H2 => nx (σ.set i (some z)) H2) : tAug i te ti ⟨nx, rt, bk, ct⟩ σ H := ⟨x, h1, h⟩
theorem r_ipI {f : Int → Int → Int} {i j : Int} {R : V → Hp → Prop} (h : R (.int (f i j)) H) : ipI f (.int i) (.int j) H R := ⟨i, j, rfl, rfl, h⟩
theorem cut_drop {xs : List V} {n : Nat} (h : n ≤ xs.length) : cutV xs (some (n : Int)) none = xs.drop n := by
  have e : HT.sIx xs.length 0 (some (n : Int)) = n := by rw [HT.sIx_nat]; exact Nat.min_eq_left h
  have e2 : HT.sIx xs.length xs.length none = xs.length := rfl
  unfold cutV
  rw [e, e2]
  exact List.take_of_length_le (by simp)
theorem cut_take {xs : List V} {n : Nat} (h : n ≤ xs.length) : cutV xs none (some (n : Int)) = xs.take n := by
  have e : HT.sIx xs.length xs.length (some (n : Int)) = n := by rw [HT.sIx_nat]; exact Nat.min_eq_left h
  have e2 : HT.sIx xs.length 0 none = 0 := rfl
  unfold cutV
  rw [e, e2]
  simp
end
section
theorem ixN_at {n j : Nat} {i : Int} (h : i = (j : Int)) (hj : j < n) : ixN n i = some j := by
  unfold ixN
  rw [if_pos (by omega), if_pos (by omega), h, Int.toNat_natCast]
theorem at0 {v : V} {xs : List V} : atI (v :: xs) 0 = some v := atI_nat (j := 0) rfl
theorem at1 {v w : V} {xs : List V} : atI (v :: w :: xs) 1 = some w := atI_nat (j := 1) rfl
theorem at_n {v : V} {xs : List V} {n : Nat} {i : Int} (hi : i = (n : Int)) (h : xs[n]? = some v) : atI xs i = some v := by rw [hi]; exact atI_nat h
end
theorem r_ndec {p : Prop} [Decidable p] {A B : Prop} (h1 : ¬ p → A) (h2 : p → B) : if (!decide p) = true then A else B := by
  by_cases hp : p
  · rw [decide_eq_true hp, if_neg (by decide)]; exact h2 hp
  · rw [decide_eq_false hp, if_pos (by decide)]; exact h1 hp
def rTs (K : PySem.W.Frag) : List V → Hp → VK → Prop := fun xs H Q => ∃ p ys, xs = [.ref p] ∧ ((SqL K H p ys ∧ ∀ l, H l = none → Q (.ref l) (upd H l (.tup ys))) ∨ (SqT K H p ys ∧ Q (.ref p) H))
theorem cr_tuple {X : Cx} : CallR X (.type "tuple") (rTs X.K) := call_tuple_of
theorem r_tupleL {K : PySem.W.Frag} {H : Hp} {Q : VK} {p : Addr} {ys : List V} (h : SqL K H p ys) (k : ∀ l, H l = none → Q (.ref l) (upd H l (.tup ys))) : rTs K [.ref p] H Q := ⟨p, ys, rfl, .inl ⟨h, k⟩⟩
end Yk

set_option maxHeartbeats 1000000
/-! Calls by place and by name, in any order; data that stands clear of some addresses. -/
namespace Yk
open PySem PySem.Spec PyProof.Rows L2
/-- the parameters' values: the i-th is the idx[i]-th of all that are passed -/
def arr {α : Type} (m n : Nat) (idx : List Nat) (us ws : List α) : List α := if us.length = m ∧ ws.length = n then idx.filterMap fun i => (us ++ ws)[i]? else []
theorem Vals.app {vs zs : List V} {us ws : List Value} (h : Vals vs us) (g : Vals zs ws) : Vals (vs ++ zs) (us ++ ws) := by
  induction h with
  | nil => exact g
  | cons a _ ih => exact .cons a ih
theorem Vals.get {vs : List V} {us : List Value} (h : Vals vs us) : ∀ i : Nat, (vs[i]? = none ∧ us[i]? = none) ∨ ∃ v u, vs[i]? = some v ∧ us[i]? = some u ∧ RelV v u := by
  induction h with
  | nil => intro i; exact .inl ⟨rfl, rfl⟩
  | cons a _ ih =>
    intro i
    cases i with
    | zero => exact .inr ⟨_, _, rfl, rfl, a⟩
    | succ i => exact ih i
theorem Vals.pick {vs : List V} {us : List Value} (h : Vals vs us) : ∀ idx : List Nat, Vals (idx.filterMap fun i => vs[i]?) (idx.filterMap fun i => us[i]?)
  | [] => .nil
  | i :: idx => by
    rcases Vals.get h i with ⟨a, b⟩ | ⟨v, u, a, b, r⟩
    · rw [List.filterMap_cons_none a, List.filterMap_cons_none b]
      exact Vals.pick h idx
    · rw [List.filterMap_cons_some a, List.filterMap_cons_some b]
      exact .cons r (Vals.pick h idx)
theorem arr_rel {m n : Nat} {idx : List Nat} {vs : List V} {us : List Value} {zs : List V} {ws : List Value} (h1 : Vals vs us) (h2 : Vals zs ws) : Vals (arr m n idx vs zs) (arr m n idx us ws) := by
  unfold arr
  rw [h1.length, h2.length]
  split
  · exact Vals.pick (Vals.app h1 h2) idx
  · exact .nil
section
variable (P : Program) (w : World) (K : PySem.W.Frag) (mg : Str → Option Value) (base : Heap)
structure FnX (k : Nat) (x : Str) (m : Nat) (ks : List Str) (idx : List Nat) (sp : Sp) : Prop where
  run : ∃ f fd ps, mg x = some (.ref f) ∧ PySem.W.keepIn K (.ref f) = true ∧ FnOk P w K mg base CX0 k f fd ps sp ∧ KBinds K fd ps ks (arr m ks.length idx) (arr m ks.length idx)
end
section
variable {P : Program} {w : World} {K : PySem.W.Frag} {mg : Str → Option Value} {base : Heap} {f : Addr} {fd : FuncData}
theorem fx_of_ok {x : Str} {params : Arguments} {body : List Stmt} {scope : Scope} {ps : List Str} {k : Nat} {sp : Sp} (m : Nat) (ks : List Str) (idx : List Nat)
    (F : FunD K x x params body scope [] [] f fd) (hm : mg x = some (.ref f)) (G : FnOk P w K mg base CX0 k f fd ps sp) (h0 : 0 < ps.length)
    (hb : ∀ (kV doc pm : Value) (an : Option Addr) (cdv ct : Value) (us ws : List Value), us.length = m → ws.length = ks.length → bindArgs (PySem.W.fnOf x x params body scope .none kV doc pm an cdv ct) ⟨us, ks.zip ws⟩ = pure (ps.zip (arr m ks.length idx us ws))) : FnX P w K mg base k x m ks idx sp := by
  refine ⟨f, fd, ps, hm, F.kp, G, ⟨fun s us ws hK hl => ?_, arr_rel⟩⟩
  obtain ⟨oc, od, dV, kV, doc, pm, an, cdv, ct, osl, rfl, lk, hcd, hD, _⟩ := F.ex
  rcases hD with ⟨_, rfl⟩ | ⟨e, _⟩
  · by_cases hc : us.length = m ∧ ws.length = ks.length
    · exact .of_eq (hb kV doc pm an cdv ct us ws hc.1 hc.2)
    · have e : arr m ks.length idx us ws = [] := if_neg hc
      rw [e] at hl
      exact absurd hl (by show (0 : Nat) ≠ ps.length; omega)
  · exact absurd rfl e
end
section
variable {X : Cx} {k m : Nat} {sp : Sp} {x : Str} {p pos : Pos} {ks : List Str} {idx : List Nat} {kws : List Keyword} {e : Expr} {es : List Expr} {t tk : TA}
def tRX (m n : Nat) (idx : List Nat) (sp : Sp) (t tk : TA) : TE := fun σ H Q => t σ H fun vs H1 => tk σ H1 fun zs H2 => ∃ us, us = arr m n idx vs zs ∧ sp us H2 Q E0
theorem r_RX {n : Nat} {σ : L2.St} {H : Hp} {Q : VK} (h : t σ H fun vs H1 => tk σ H1 fun zs H2 => ∃ us, us = arr m n idx vs zs ∧ sp us H2 Q E0) : tRX m n idx sp t tk σ H Q := h
theorem pe_fnX (F : FnX X.prog X.w X.K X.mg X.base k x m ks idx sp) (hr : Room k X.A) (ha : PA X (e :: es) t) (hkw : PK X kws tk) (hg : Gl X x := by rfl) (hdb : (x == ("__debug__" : Str)) = false := by decide)
    (hx : Passes CX0 X E0 := by exact pass0)
    (hall : (backToKw pos (keywordEach kws X.env)).all (·.1.isSome) = true := by rfl) (hks : (backToKw pos (keywordEach kws X.env)).filterMap (·.1) = ks := by rfl)
    (he : starEach (e :: es) X.env = (false, eval e X.env) :: starEach es X.env := by rfl)
    (hpl : ((backTo pos (starEach (e :: es) X.env)).any (·.1) || (backToKw pos (keywordEach kws X.env)).any (·.1.isNone)) = false := by rfl) :
    PE X (.Call (.Name x p) (e :: es) kws pos) (tRX m ks.length idx sp t tk) := by
  obtain ⟨f, fd, ps, hm, hk, F, hb⟩ := F.run
  refine ⟨fun pins s σ H Q I h => ?_⟩
  refine wpAny_Call_Name_kw (ld_glob I hg hm ?_ hdb)
  refine PySem.W.callWith_KW (h₀ := X.base) I.ok.mod.kin hk hall (thn (ha.run pos pins s σ H _ I h) fun us s1 ⟨vs, H1, I1, r, q⟩ => ?_) hpl he
  refine thn (hkw.run pos pins s1 σ H1 _ I1 q) fun ws s2 ⟨zs, H2, I2, rz, us', e, q2⟩ => ⟨I2.kIn, ?_⟩
  rw [hks]
  subst e
  exact run_fnk F hr hb hx I2 r rz q2
theorem pe_fnX0 (F : FnX X.prog X.w X.K X.mg X.base k x m ks idx sp) (hr : Room k X.A) (hkw : PK X kws tk) (hg : Gl X x := by rfl) (hdb : (x == ("__debug__" : Str)) = false := by decide)
    (hx : Passes CX0 X E0 := by exact pass0)
    (hall : (backToKw pos (keywordEach kws X.env)).all (·.1.isSome) = true := by rfl) (hks : (backToKw pos (keywordEach kws X.env)).filterMap (·.1) = ks := by rfl)
    (hpl : ((backTo pos (starEach [] X.env)).any (·.1) || (backToKw pos (keywordEach kws X.env)).any (·.1.isNone)) = false := by rfl) :
    PE X (.Call (.Name x p) [] kws pos) (tRX m ks.length idx sp tNil tk) := by
  obtain ⟨f, fd, ps, hm, hk, F, hb⟩ := F.run
  refine ⟨fun pins s σ H Q I h => ?_⟩
  refine wpAny_Call_Name_kw (ld_glob I hg hm ?_ hdb)
  refine PySem.W.callWith_KW0 (h₀ := X.base) I.ok.mod.kin hk hall ?_ hpl
  refine thn (hkw.run pos pins s σ H _ I h) fun ws s2 ⟨zs, H2, I2, rz, us, e, q2⟩ => ⟨I2.kIn, ?_⟩
  rw [hks]
  subst e
  exact run_fnk (us := []) (vs := []) F hr hb hx I2 .nil rz q2
end
/-! data clear of S -/
mutual
inductive Dq (K : PySem.W.Frag) (S : List Addr) (H : Hp) : V → PyData → Prop
  | non : Dq K S H .non .none
  | bl (b : Bool) : Dq K S H (.bl b) (.bool b)
  | int (i : Int) : Dq K S H (.int i) (.int i)
  | str (x : Str) : Dq K S H (.str x) (.str x)
  | lst {a : Addr} {xs : List V} {ds : List PyData} : a ∉ S → SqL K H a xs → DqAll K S H xs ds → Dq K S H (.ref a) (.list ds)
  | tup {a : Addr} {xs : List V} {ds : List PyData} : SqT K H a xs → DqAll K S H xs ds → Dq K S H (.ref a) (.tuple ds)
inductive DqAll (K : PySem.W.Frag) (S : List Addr) (H : Hp) : List V → List PyData → Prop
  | nil : DqAll K S H [] []
  | cons {v : V} {vs : List V} {d : PyData} {ds : List PyData} : Dq K S H v d → DqAll K S H vs ds → DqAll K S H (v :: vs) (d :: ds)
end
section
variable {K : PySem.W.Frag} {S T : List Addr} {H H1 : Hp}
mutual
theorem Dq.x (e : Ext T H H1) (hT : ∀ x ∈ T, x ∈ S) (hs : ∀ b ∈ T, ∃ l, H b = some (.lst l)) : ∀ {v : V} {d : PyData}, Dq K S H v d → Dq K S H1 v d
  | _, _, .non => .non
  | _, _, .bl b => .bl b
  | _, _, .int i => .int i
  | _, _, .str z => .str z
  | _, _, .lst na h g => .lst na (lstX e h fun q => na (hT _ q)) (DqAll.x e hT hs g)
  | _, _, .tup h g => .tup (tupX e h hs) (DqAll.x e hT hs g)
theorem DqAll.x (e : Ext T H H1) (hT : ∀ x ∈ T, x ∈ S) (hs : ∀ b ∈ T, ∃ l, H b = some (.lst l)) : ∀ {vs : List V} {ds : List PyData}, DqAll K S H vs ds → DqAll K S H1 vs ds
  | _, _, .nil => .nil
  | _, _, .cons h g => .cons (Dq.x e hT hs h) (DqAll.x e hT hs g)
end
mutual
theorem Dq.dp : ∀ {v : V} {d : PyData}, Dq K S H v d → Dp K H v d
  | _, _, .non => .non
  | _, _, .bl b => .bl b
  | _, _, .int i => .int i
  | _, _, .str z => .str z
  | _, _, .lst _ h g => .lst h (DqAll.dp g)
  | _, _, .tup h g => .tup h (DqAll.dp g)
theorem DqAll.dp : ∀ {vs : List V} {ds : List PyData}, DqAll K S H vs ds → DpAll K H vs ds
  | _, _, .nil => .nil
  | _, _, .cons h g => .cons (Dq.dp h) (DqAll.dp g)
end
theorem Dq.x0 (e : Ext [] H H1) {v : V} {d : PyData} (h : Dq K S H v d) : Dq K S H1 v d := h.x e (fun _ z => nomatch z) (fun _ z => nomatch z)
theorem DqAll.x0 (e : Ext [] H H1) {v : List V} {d : List PyData} (h : DqAll K S H v d) : DqAll K S H1 v d := h.x e (fun _ z => nomatch z) (fun _ z => nomatch z)
theorem DqAll.app : ∀ {vs ws : List V} {ds es : List PyData}, DqAll K S H vs ds → DqAll K S H ws es → DqAll K S H (vs ++ ws) (ds ++ es)
  | _, _, _, _, .nil, g => g
  | _, _, _, _, .cons h r, g => .cons h (DqAll.app r g)
theorem DqAll.get : ∀ {vs : List V} {ds : List PyData} {i : Nat} {v : V}, DqAll K S H vs ds → vs[i]? = some v → ∃ d, ds[i]? = some d ∧ Dq K S H v d
  | _, _, 0, _, .cons h _, e => by cases e; exact ⟨_, rfl, h⟩
  | _, _, i + 1, _, .cons _ r, e => DqAll.get (i := i) r e
  | _, _, 0, _, .nil, e => by cases e
  | _, _, _ + 1, _, .nil, e => by cases e
end
end Yk

/-! Rational numbers: what the program's reckoning in lowest terms is worth. -/
namespace Yk
/-- the sum in lowest terms, as the program reckons it -/
theorem add_low (a b : Rat) : (a + b).num = (a.num * ((b.den / Nat.gcd a.den b.den : Nat) : Int) + b.num * ((a.den / Nat.gcd a.den b.den : Nat) : Int)) / ((Nat.gcd (a.num * ((b.den / Nat.gcd a.den b.den : Nat) : Int) + b.num * ((a.den / Nat.gcd a.den b.den : Nat) : Int)).natAbs (Nat.gcd a.den b.den) : Nat) : Int)
    ∧ (a + b).den = a.den / Nat.gcd a.den b.den * (b.den / Nat.gcd (a.num * ((b.den / Nat.gcd a.den b.den : Nat) : Int) + b.num * ((a.den / Nat.gcd a.den b.den : Nat) : Int)).natAbs (Nat.gcd a.den b.den)) := by
  have e : a + b = Rat.add a b := rfl
  rw [e]
  unfold Rat.add
  dsimp only
  by_cases hg : Nat.gcd a.den b.den = 1
  · rw [dif_pos hg]
    simp [hg]
  · rw [dif_neg hg]
    have hmn : ∀ (num : Int) (den g : Nat) (h1 : (g : Int) ∣ num) (h2 : g ∣ den) (h3) (h4), (Rat.maybeNormalize num den g h1 h2 h3 h4).num = num / (g : Int) ∧ (Rat.maybeNormalize num den g h1 h2 h3 h4).den = den / g := by
      intro num den g h1 h2 h3 h4
      unfold Rat.maybeNormalize
      split
      · rename_i q
        subst q
        simp
      · exact ⟨by simp [Int.divExact], by simp [Nat.divExact]⟩
    obtain ⟨e1, e2⟩ := hmn _ _ _ _ _ _ _
    refine ⟨e1, ?_⟩
    rw [e2]
    have hd : Nat.gcd (a.num * ((b.den / Nat.gcd a.den b.den : Nat) : Int) + b.num * ((a.den / Nat.gcd a.den b.den : Nat) : Int)).natAbs (Nat.gcd a.den b.den) ∣ b.den := Nat.dvd_trans (Nat.gcd_dvd_right _ _) (Nat.gcd_dvd_right _ _)
    exact Nat.mul_div_assoc _ hd
theorem mul_low (a b : Rat) : (a * b).num = a.num / ((Nat.gcd a.num.natAbs b.den : Nat) : Int) * (b.num / ((Nat.gcd b.num.natAbs a.den : Nat) : Int)) ∧ (a * b).den = a.den / Nat.gcd b.num.natAbs a.den * (b.den / Nat.gcd a.num.natAbs b.den) := by
  have e : a * b = Rat.mul a b := rfl
  rw [e]
  unfold Rat.mul
  simp [Int.divExact, Nat.divExact]
/-- size: both numbers below 2 ^ n -/
def Sz (n : Nat) (q : Rat) : Prop := q.num.natAbs < 2 ^ n ∧ q.den < 2 ^ n
theorem Sz.mono {m n : Nat} {q : Rat} (h : Sz m q) (e : m ≤ n) : Sz n q := ⟨Nat.lt_of_lt_of_le h.1 (Nat.pow_le_pow_right (by decide) e), Nat.lt_of_lt_of_le h.2 (Nat.pow_le_pow_right (by decide) e)⟩
theorem sz_mk {n : Nat} {q : Rat} {a : Int} {b : Nat} (hb : 0 < b) (e : q = mkRat a b) (h1 : a.natAbs < 2 ^ n) (h2 : b < 2 ^ n) : Sz n q := by
  subst e
  constructor
  · rw [Rat.num_mkRat, if_neg (by omega)]
    have hd : ((Nat.gcd b a.natAbs : Nat) : Int) ∣ a := Int.natAbs_dvd_natAbs.mp (by simpa using Nat.gcd_dvd_right b a.natAbs)
    rw [Int.natAbs_ediv_of_dvd hd]
    refine Nat.lt_of_le_of_lt (Nat.div_le_self _ _) h1
  · rw [Rat.den_mkRat, if_neg (by omega)]
    exact Nat.lt_of_le_of_lt (Nat.div_le_self _ _) h2
theorem sz_add {m n : Nat} {a b : Rat} (ha : Sz m a) (hb : Sz n b) : Sz (m + n + 1) (a + b) := by
  have h1 : (a.num * (b.den : Int)).natAbs < 2 ^ (m + n) := by
    rw [Int.natAbs_mul, Nat.pow_add]
    exact Nat.mul_lt_mul'' ha.1 (by simpa using hb.2)
  have h2 : (b.num * (a.den : Int)).natAbs < 2 ^ (m + n) := by
    rw [Int.natAbs_mul, Nat.pow_add, Nat.mul_comm]
    exact Nat.mul_lt_mul'' (by simpa using ha.2) hb.1
  have h3 : 2 ^ (m + n + 1) = 2 ^ (m + n) + 2 ^ (m + n) := by rw [Nat.pow_succ]; omega
  refine sz_mk (a := a.num * b.den + b.num * a.den) (b := a.den * b.den) (Nat.mul_pos a.den_pos b.den_pos) ?_ ?_ ?_
  · rw [Rat.add_def, Rat.normalize_eq_mkRat]
  · have := Int.natAbs_add_le (a.num * (b.den : Int)) (b.num * (a.den : Int))
    omega
  · have h4 : a.den * b.den < 2 ^ m * 2 ^ n := Nat.mul_lt_mul'' ha.2 hb.2
    rw [← Nat.pow_add] at h4
    omega
theorem sz_mul {m n : Nat} {a b : Rat} (ha : Sz m a) (hb : Sz n b) : Sz (m + n) (a * b) := by
  refine sz_mk (a := a.num * b.num) (b := a.den * b.den) (Nat.mul_pos a.den_pos b.den_pos) ?_ ?_ ?_
  · rw [Rat.mul_def, Rat.normalize_eq_mkRat]
  · rw [Int.natAbs_mul, Nat.pow_add]
    exact Nat.mul_lt_mul'' ha.1 hb.1
  · rw [Nat.pow_add]
    exact Nat.mul_lt_mul'' ha.2 hb.2
theorem sz_neg {n : Nat} {a : Rat} (h : Sz n a) : Sz n (-a) := by
  refine ⟨?_, ?_⟩
  · rw [Rat.neg_num, Int.natAbs_neg]; exact h.1
  · exact h.2
theorem sz_inv {n : Nat} {a : Rat} (h : Sz n a) (h0 : 0 < a) : Sz n a⁻¹ := by
  have h1 : 0 < a.num := by
    have := (Rat.lt_iff 0 a).mp h0
    simpa using this
  refine ⟨?_, ?_⟩
  · rw [Rat.num_inv, Int.sign_eq_one_of_pos h1, Int.one_mul]
    simpa using h.2
  · rw [Rat.den_inv, if_neg (by omega)]
    exact h.1
theorem num_pos' {q : Rat} (h : 0 < q) : 0 < q.num := by
  have := (Rat.lt_iff 0 q).mp h
  simpa using this
theorem num_nn {q : Rat} (h : 0 ≤ q) : 0 ≤ q.num := Rat.num_nonneg.mpr h
theorem inv_parts {q : Rat} (h : 0 < q) : q⁻¹.num = (q.den : Int) ∧ (q⁻¹.den : Int) = q.num := by
  have h1 := num_pos' h
  refine ⟨?_, ?_⟩
  · rw [Rat.num_inv, Int.sign_eq_one_of_pos h1, Int.one_mul]
  · rw [Rat.den_inv, if_neg (by omega)]
    omega
/-- two numbers in lowest terms -/
theorem mk_parts (a b : Nat) (hb : 0 < b) : (mkRat (a : Int) b).num = ((a / Nat.gcd a b : Nat) : Int) ∧ (mkRat (a : Int) b).den = b / Nat.gcd a b := by
  rw [Rat.num_mkRat, Rat.den_mkRat, if_neg (by omega), if_neg (by omega)]
  simp [Nat.gcd_comm]
theorem mk_nn (a b : Nat) : 0 ≤ mkRat (a : Int) b := by
  rcases Nat.eq_zero_or_pos b with h | h
  · subst h; simp
  · have e := (mk_parts a b h).1
    have : 0 ≤ (mkRat (a : Int) b).num := by rw [e]; exact Int.natCast_nonneg _
    exact Rat.num_nonneg.mp this
end Yk
namespace Yk
theorem add_int (p q : Rat) : (p + q).num = (p.num * ((q.den : Int) / ((Nat.gcd p.den q.den : Nat) : Int)) + q.num * ((p.den : Int) / ((Nat.gcd p.den q.den : Nat) : Int))) / ((Nat.gcd (p.num * ((q.den : Int) / ((Nat.gcd p.den q.den : Nat) : Int)) + q.num * ((p.den : Int) / ((Nat.gcd p.den q.den : Nat) : Int))).natAbs (Nat.gcd p.den q.den) : Nat) : Int)
    ∧ ((p + q).den : Int) = (p.den : Int) / ((Nat.gcd p.den q.den : Nat) : Int) * ((q.den : Int) / ((Nat.gcd (p.num * ((q.den : Int) / ((Nat.gcd p.den q.den : Nat) : Int)) + q.num * ((p.den : Int) / ((Nat.gcd p.den q.den : Nat) : Int))).natAbs (Nat.gcd p.den q.den) : Nat) : Int)) := by
  obtain ⟨h1, h2⟩ := add_low p q
  constructor
  · rw [h1]
    simp only [Int.natCast_ediv]
  · rw [h2]
    simp only [Int.natCast_ediv, Int.natCast_mul]
theorem mul_int' (p q : Rat) : (p * q).num = p.num / ((Nat.gcd p.num.natAbs q.den : Nat) : Int) * (q.num / ((Nat.gcd q.num.natAbs p.den : Nat) : Int)) ∧ ((p * q).den : Int) = (p.den : Int) / ((Nat.gcd q.num.natAbs p.den : Nat) : Int) * ((q.den : Int) / ((Nat.gcd p.num.natAbs q.den : Nat) : Int)) := by
  obtain ⟨h1, h2⟩ := mul_low p q
  refine ⟨h1, ?_⟩
  rw [h2]
  simp only [Int.natCast_ediv, Int.natCast_mul]
theorem abs_div_le (a b : Int) (hb : 0 < b) : (a / b).natAbs ≤ a.natAbs := by
  have h1 := Int.natAbs_ediv_le_natAbs a b
  exact h1
end Yk
namespace Yk
def cmpQ' (p q : Rat) : Int := if p < q then -1 else if q < p then 1 else 0
theorem cmp_add (p q r : Rat) : cmpQ' (p + r) (q + r) = cmpQ' p q := by
  unfold cmpQ'
  have h1 : p + r < q + r ↔ p < q := Rat.add_lt_add_right
  have h2 : q + r < p + r ↔ q < p := Rat.add_lt_add_right
  simp only [h1, h2]
theorem cmp_more (p r : Rat) (hr : 0 ≤ r) : cmpQ' (p + r) p = if 0 < r then 1 else 0 := by
  unfold cmpQ'
  by_cases h : 0 < r
  · rw [if_neg (by grind), if_pos (by grind), if_pos h]
  · rw [if_neg (by grind), if_neg (by grind), if_neg h]
theorem cmp_mul (p q r : Rat) (hr : 0 ≤ r) : cmpQ' (p * r) (r * q) = if 0 < r then cmpQ' p q else 0 := by
  rw [Rat.mul_comm r q]
  unfold cmpQ'
  by_cases h : 0 < r
  · have h1 : p * r < q * r ↔ p < q := Rat.mul_lt_mul_right h
    have h2 : q * r < p * r ↔ q < p := Rat.mul_lt_mul_right h
    simp only [h1, h2, if_pos h]
  · have e : r = 0 := by grind
    subst e
    simp
theorem add_nn {a b : Rat} (h1 : 0 ≤ a) (h2 : 0 ≤ b) : 0 ≤ a + b := Rat.add_nonneg h1 h2
theorem mul_nn {a b : Rat} (h1 : 0 ≤ a) (h2 : 0 ≤ b) : 0 ≤ a * b := Rat.mul_nonneg h1 h2
theorem r_sub1 (p q : Rat) : p + q - q = p := by grind
theorem r_sub2 (p q r : Rat) : p + q + r - (r + q) = p := by grind
theorem r_sub3 (p : Rat) : p - p = 0 := by grind
theorem r_div1 {p q : Rat} (h : 0 < q) : p * q / q = p := by grind
theorem r_div2 {p q : Rat} (h : 0 < q) : p / q * q = p := by grind
theorem r_div3 {q : Rat} (h : 0 < q) : q / q = 1 := by grind
theorem r_dist (p q r : Rat) : p * q + p * r = p * (q + r) := by grind
theorem le1 {p q : Rat} (h : 0 ≤ p) : q ≤ p + q := by grind
theorem le2 {p q r : Rat} (h : 0 ≤ p) : r + q ≤ p + q + r := by grind
theorem num_pos_iff {r : Rat} (h : 0 ≤ r) : 0 < r.num ↔ 0 < r := by
  constructor
  · intro h1
    exact (Rat.lt_iff 0 r).mpr (by simpa using h1)
  · exact num_pos'
theorem sz_div {m n : Nat} {a b : Rat} (ha : Sz m a) (hb : Sz n b) (h : 0 < b) : Sz (m + n) (a / b) := by
  rw [Rat.div_def]
  exact sz_mul ha (sz_inv hb h)
end Yk

set_option maxHeartbeats 1000000
namespace Yk
open PySem PySem.Spec PyProof.Rows L2
def top (i : Nat) : Stmt := PySem.Challenge.pw_bandheld_k30_whole_bags.main.body.getD i (.Pass ⟨0, 0, 0, 0⟩)
structure Bt (mg : Str → Option Value) : Prop where
  int : mg "int" = none
  len : mg "len" = none
  list : mg "list" = none
  tuple : mg "tuple" = none
  str : mg "str" = none
  bool : mg "bool" = none
  max : mg "max" = none
  min : mg "min" = none
  all : mg "all" = none
  any : mg "any" = none
  sum : mg "sum" = none
  isinstance : mg "isinstance" = none
  zip : mg "zip" = none
  range : mg "range" = none
  divmod : mg "divmod" = none
structure Bg (mg : Str → Option Value) : Prop extends Bt mg where
  gcd : mg "gcd" = some (.builtin "math.gcd")
/-- an amount: its two numbers in a tuple -/
def Am (K : PySem.W.Frag) (H : Hp) (v : V) (q : Rat) : Prop := ∃ a, v = .ref a ∧ SqT K H a [.int q.num, .int (q.den : Int)]
theorem Am.x {S : List Addr} {K : PySem.W.Frag} {H H1 : Hp} {v : V} {q : Rat} (e : Ext S H H1) (h : Am K H v q) (hs : ∀ b ∈ S, ∃ l, H b = some (.lst l)) : Am K H1 v q := by
  obtain ⟨a, rfl, h⟩ := h
  exact ⟨a, rfl, tupX e h hs⟩
theorem Am.x0 {K : PySem.W.Frag} {H H1 : Hp} {v : V} {q : Rat} (e : Ext [] H H1) (h : Am K H v q) : Am K H1 v q := h.x e fun _ z => nomatch z
/-- what an amount's promise hands back -/
def RetAm (K : PySem.W.Frag) (H : Hp) (Q : VK) (q : Rat) : Prop := ∀ v H', Ext [] H H' → Am K H' v q → Q v H'
def spAdded (K : PySem.W.Frag) : Sp := fun vs H Q _ => ∃ v1 v2 p q, vs = [v1, v2] ∧ Am K H v1 p ∧ Am K H v2 q ∧ Sz 4000 p ∧ Sz 4000 q ∧ RetAm K H Q (p + q)
end Yk
namespace Yk
open PySem PySem.Spec PyProof.Rows L2
theorem cdiv {n : Nat} {i : Int} {b : Nat} (h0 : 0 < b) (hb : b < 2 ^ n) (hn : 0 < n) (h9 : n ≤ 9000) : CDivW i (b : Int) := wide_div (by omega) (by simpa using hb) hn h9
theorem cmul {m n : Nat} {i j : Int} (hi : i.natAbs < 2 ^ m) (hj : j.natAbs < 2 ^ n) (h0 : 0 < m) (h1 : 0 < n) (h : m + n ≤ 1000000) : CMulW i j := wide_mul hi hj h0 h1 h
theorem dlt {n : Nat} {a b : Int} (h : a.natAbs < 2 ^ n) : (a / b).natAbs < 2 ^ n := Nat.lt_of_le_of_lt (Int.natAbs_ediv_le_natAbs a b) h
end Yk
namespace Yk
open PySem PySem.Spec PyProof.Rows L2
/-- a row of amounts -/
def Ams (K : PySem.W.Frag) (H : Hp) (vs : List V) (qs : List Rat) : Prop := vs.length = qs.length ∧ ∀ (i : Nat) (v : V) (q : Rat), vs[i]? = some v → qs[i]? = some q → Am K H v q
theorem Ams.x {S : List Addr} {K : PySem.W.Frag} {H H1 : Hp} {vs : List V} {qs : List Rat} (e : Ext S H H1) (h : Ams K H vs qs) (hs : ∀ b ∈ S, ∃ l, H b = some (.lst l)) : Ams K H1 vs qs := ⟨h.1, fun i v q a b => (h.2 i v q a b).x e hs⟩
theorem Ams.x0 {K : PySem.W.Frag} {H H1 : Hp} {vs : List V} {qs : List Rat} (e : Ext [] H H1) (h : Ams K H vs qs) : Ams K H1 vs qs := h.x e fun _ z => nomatch z
theorem Ams.at_ {K : PySem.W.Frag} {H : Hp} {vs : List V} {qs : List Rat} (h : Ams K H vs qs) {i : Nat} {v : V} (hv : vs[i]? = some v) : ∃ q, qs[i]? = some q ∧ Am K H v q := by
  have hi : i < qs.length := by rw [← h.1]; exact (List.getElem?_eq_some_iff.mp hv).1
  exact ⟨qs[i], List.getElem?_eq_getElem hi, h.2 i v _ hv (List.getElem?_eq_getElem hi)⟩
theorem Ams.nil {K : PySem.W.Frag} {H : Hp} : Ams K H [] [] := ⟨rfl, fun i v q h => by simp at h⟩
theorem Ams.cons {K : PySem.W.Frag} {H : Hp} {v : V} {q : Rat} {vs : List V} {qs : List Rat} (h : Am K H v q) (r : Ams K H vs qs) : Ams K H (v :: vs) (q :: qs) := by
  refine ⟨by simp [r.1], fun i w u a b => ?_⟩
  cases i with
  | zero =>
    simp at a b
    subst a b
    exact h
  | succ i =>
    simp at a b
    exact r.2 i w u a b
/-- the smallest, the largest of a row -/
def minQ (p : Rat) (qs : List Rat) : Rat := qs.foldl (fun m q => if q < m then q else m) p
def maxQ (p : Rat) (qs : List Rat) : Rat := qs.foldl (fun m q => if m < q then q else m) p
theorem fold_take {α : Type} {f : α → Rat → α} {z : α} {qs : List Rat} {i : Nat} {q : Rat} (h : qs[i]? = some q) : (qs.take (i + 1)).foldl f z = f ((qs.take i).foldl f z) q := by
  obtain ⟨hl, e⟩ := List.getElem?_eq_some_iff.mp h
  rw [← List.take_append_getElem hl, List.foldl_append, e]
  rfl
theorem minQ_mem {m : Nat} {p : Rat} : ∀ {qs : List Rat}, Sz m p → (∀ q ∈ qs, Sz m q) → Sz m (minQ p qs)
  | [], h, _ => h
  | q :: r, h, hq => by
    show Sz m (minQ (if q < p then q else p) r)
    refine minQ_mem ?_ fun x hx => hq x (List.mem_cons_of_mem _ hx)
    split
    · exact hq q List.mem_cons_self
    · exact h
theorem maxQ_mem {m : Nat} {p : Rat} : ∀ {qs : List Rat}, Sz m p → (∀ q ∈ qs, Sz m q) → Sz m (maxQ p qs)
  | [], h, _ => h
  | q :: r, h, hq => by
    show Sz m (maxQ (if p < q then q else p) r)
    refine maxQ_mem ?_ fun x hx => hq x (List.mem_cons_of_mem _ hx)
    split
    · exact hq q List.mem_cons_self
    · exact h
end Yk
namespace Yk
open PySem PySem.Spec PyProof.Rows L2
/-- what five numbers the bag may hold -/
def Bag5 (ns : List Int) (it : Addr) (l : List V) : Prop := ∃ (pos : Nat) (rest seed cnt : Int), l = [.ref it, .int (pos : Int), .int rest, .int seed, .int cnt] ∧ pos ≤ ns.length ∧ 0 ≤ rest ∧ 0 ≤ seed ∧ seed < 2147483629
structure Bag where
  a : Addr
  it : Addr
  ns : List Int
structure BagAt (K : PySem.W.Frag) (H : Hp) (b : Bag) : Prop where
  ex : ∃ l : List V, H b.a = some (.lst l) ∧ SqL K H b.it (b.ns.map V.int) ∧ b.ns.length ≤ 63 ∧ Bag5 b.ns b.it l
theorem BagAt.lst {K : PySem.W.Frag} {H : Hp} {b : Bag} (h : BagAt K H b) : ∃ l, H b.a = some (.lst l) := by
  obtain ⟨l, h1, _⟩ := h.ex
  exact ⟨l, h1⟩
theorem BagAt.x0 {K : PySem.W.Frag} {H H1 : Hp} {b : Bag} (h : BagAt K H b) (e : Ext [] H H1) : BagAt K H1 b := by
  obtain ⟨l, h1, h2, h3, h4⟩ := h.ex
  exact ⟨l, e _ _ h1 (fun z => nomatch z), lst0 e h2, h3, h4⟩
theorem BagAt.new {K : PySem.W.Frag} {H : Hp} {b : Bag} {p : Addr} {o : HO} (h : BagAt K H b) (hp : H p = none) : BagAt K (upd H p o) b := h.x0 (Ext.refl.new hp)
theorem BagAt.ne {K : PySem.W.Frag} {H : Hp} {b : Bag} {p : Addr} (h : BagAt K H b) (hp : H p = none) : b.a ≠ p := by
  obtain ⟨l, q⟩ := h.lst
  exact ne_of_none q hp
theorem BagAt.ne' {K : PySem.W.Frag} {H : Hp} {b : Bag} {p : Addr} (hp : H p = none) (h : BagAt K H b) : b.a ≠ p := h.ne hp
/-- what was new to a heap with the bag may change later -/
theorem BagAt.own {K : PySem.W.Frag} {H0 H : Hp} {b : Bag} {p : Addr} {o : HO} (h0 : BagAt K H0 b) (hp : H0 p = none) (h : BagAt K H b) : BagAt K (upd H p o) b := by
  obtain ⟨l0, a0, a1, _, _⟩ := h0.ex
  obtain ⟨l, h1, h2, h3, h4⟩ := h.ex
  refine ⟨l, by rw [upd_ne (ne_of_none a0 hp)]; exact h1, ?_, h3, h4⟩
  rcases a1 with a1 | a1
  · have hne : b.it ≠ p := by
      rcases a1 with a1 | ⟨u, a1⟩
      · exact ne_of_none a1 hp
      · exact ne_of_none a1 hp
    rcases h2 with (h2 | ⟨u, h2⟩) | h2
    · exact .inl (.inl (by rw [upd_ne hne]; exact h2))
    · exact .inl (.inr ⟨u, by rw [upd_ne hne]; exact h2⟩)
    · exact .inr h2
  · exact .inr a1
theorem tupB {K : PySem.W.Frag} {H H1 : Hp} {a : Addr} {b : Bag} {xs : List V} (hb : BagAt K H b) (e : Ext [b.a] H H1) (h : SqT K H a xs) : SqT K H1 a xs := tupX e h fun c hc => by rw [List.mem_singleton.mp hc]; exact hb.lst
theorem Am.b {K : PySem.W.Frag} {H H1 : Hp} {b : Bag} {v : V} {q : Rat} (hb : BagAt K H b) (e : Ext [b.a] H H1) (h : Am K H v q) : Am K H1 v q := h.x e fun c hc => by rw [List.mem_singleton.mp hc]; exact hb.lst
theorem Am.b' {K : PySem.W.Frag} {H H1 : Hp} {b : Bag} {v : V} {q : Rat} (e : Ext [b.a] H H1) (hb : BagAt K H b) (h : Am K H v q) : Am K H1 v q := h.b hb e
theorem Ams.b {K : PySem.W.Frag} {H H1 : Hp} {b : Bag} {v : List V} {q : List Rat} (hb : BagAt K H b) (e : Ext [b.a] H H1) (h : Ams K H v q) : Ams K H1 v q := h.x e fun c hc => by rw [List.mem_singleton.mp hc]; exact hb.lst
theorem Am.n {K : PySem.W.Frag} {H : Hp} {p : Addr} {o : HO} {v : V} {q : Rat} (h : Am K H v q) (hp : H p = none) : Am K (upd H p o) v q := h.x0 (Ext.refl.new hp)
theorem am_lit {K : PySem.W.Frag} {H : Hp} {a : Addr} {n : Int} {d : Nat} (hd : d ≠ 0) (hc : n.natAbs.Coprime d) (h : SqT K H a [.int n, .int (d : Int)]) : Am K H (.ref a) ⟨n, d, hd, hc⟩ := ⟨a, rfl, h⟩
end Yk

open PySem PySem.Spec PyProof.Rows L2 Yk
local macro_rules | `(tactic| walk_at "sq") => `(tactic| first
  | assumption
  | exact tupS
  | exact lstS
  | ((refine' tupN ?h1 (by assumption)); (case h1 => walk_at "sq"))
  | ((refine' lstN ?h1 (by assumption)); (case h1 => walk_at "sq"))
  | ((refine' tup0 (by assumption) ?h1); (case h1 => walk_at "sq"))
  | ((refine' lst0 (by assumption) ?h1); (case h1 => walk_at "sq")))
local macro_rules | `(tactic| walk_at "side") => `(tactic| first | assumption | decide | omega | exact Or.inr ⟨by decide, by decide⟩ | exact ⟨by decide, by decide, by decide⟩ | exact ⟨by decide, by decide +kernel⟩)
local macro_rules | `(tactic| walk_at "ty") => `(tactic| first
  | exact TyX.base TyOf.non
  | exact TyX.base (TyOf.bl _)
  | exact TyX.base (TyOf.int _)
  | exact TyX.base (TyOf.str _)
  | ((refine' tyT ?h1); (case h1 => walk_at "sq"))
  | ((refine' tyL ?h1); (case h1 => walk_at "sq")))
local macro_rules | `(tactic| walk_at "st") => `(tactic| first
  | with_reducible refine' r_seq ?_
  | with_reducible refine' r_asg ?_
  | with_reducible refine' r_ret ?_
  | with_reducible refine' r_drop ?_
  | with_reducible refine' r_ifS ?_
  | with_reducible refine' r_par ?_
  | with_reducible refine' r_name ?_
  | with_reducible refine' r_gCons ?_
  | with_reducible refine' r_gNil ?_
  | with_reducible refine' r_gSub ?_
  | ((with_reducible refine' r_gTup ?h1 ?h2 ?h3); (case h1 => walk_at "sq"); (case h2 => rfl))
  | with_reducible refine' r_op ?_
  | with_reducible refine' r_un ?_
  | with_reducible refine' r_c ?_
  | ((with_reducible refine' r_var ?h1 ?h2); (case h1 => rfl))
  | with_reducible refine' r_I0 ?_
  | with_reducible refine' r_U ?_
  | ((with_reducible refine' r_I ?h1 ?h2); (case h1 => walk_at "side"))
  | ((with_reducible refine' r_ixT ?h1 ?h2 ?h3); (case h1 => walk_at "sq"); (case h2 => rfl))
  | ((with_reducible refine' r_ixL ?h1 ?h2 ?h3); (case h1 => walk_at "sq"); (case h2 => rfl))
  | with_reducible refine' r_cons ?_
  | with_reducible refine' r_nil ?_
  | with_reducible refine' r_tup ?_
  | with_reducible refine' r_lst ?_
  | with_reducible refine' r_CB ?_
  | with_reducible refine' r_R ?_
  | with_reducible refine' r_R1 ?_
  | with_reducible refine' r_star ?_
  | with_reducible refine' r_RS ?_
  | with_reducible refine' r_RX ?_
  | with_reducible refine' r_gcd ?_
  | ((with_reducible refine' r_aug ?h1 ?h2); (case h1 => rfl))
  | with_reducible refine' r_ipI ?_
  | ((with_reducible refine' r_app ?h1 ?h2 ?h3); (case h1 => assumption); (case h2 => first | assumption | omega))
  | with_reducible refine' r_test ?_
  | with_reducible refine' r_B ?_
  | with_reducible refine' r_bl ?_
  | with_reducible refine' r_if ?_
  | with_reducible refine' r_and ?_
  | with_reducible refine' r_or ?_
  | with_reducible refine' r_not ?_
  | with_reducible refine' r_next ?_
  | with_reducible refine' r_int ?_
  | with_reducible refine' r_exI ?_
  | with_reducible refine' r_andV ?_
  | with_reducible refine' r_orV ?_
  | with_reducible refine' r_notV ?_
  | ((with_reducible refine' r_isi ?h1 ?h2 ?h3); (case h1 => walk_at "ty"); (case h2 => rfl))
  | ((with_reducible refine' r_isiT ?h1 ?h2 ?h3 ?h4); (case h1 => exact upd_same); (case h2 => walk_at "ty"); (case h3 => rfl))
  | with_reducible refine' And.intro (rfl : V.non = V.non) ?_
  | with_reducible refine' r_BM ?_
  | with_reducible refine' r_BM0 ?_
  | with_reducible refine' r_lc ?_
  | with_reducible refine' r_yes ?_
  | with_reducible refine' r_tt ?_
  | with_reducible refine' r_iRng1 ?_
  | with_reducible refine' r_iList ?_
  | with_reducible refine' r_iTup ?_
  | with_reducible refine' r_iZip ?_
  | ((with_reducible refine' r_gUnl ?h1 ?h2 ?h3); (case h1 => walk_at "sq"); (case h2 => rfl))
  | with_reducible refine' r_slL ?_
  | with_reducible refine' r_noP ?_
  | with_reducible refine' r_part ?_
  | ((with_reducible refine' r_len ?h1 ?h2); (case h1 => (first | (refine Or.inl ?_; walk_at "sq") | (refine Or.inr ?_; walk_at "sq"))))
  | ((with_reducible refine' r_eq ?h1 ?h2); (case h1 => rfl))
  | ((with_reducible refine' r_ne ?h1 ?h2); (case h1 => rfl))
  | ((with_reducible refine' And.intro ?h1 ?h2); (case h1 => (simp only [List.length_cons, List.length_nil, List.length_map]; decide)); (intro np hnp))
  | ((with_reducible refine' Exists.intro _ (Exists.intro _ (And.intro ?h1 ?h2))); (case h1 => (show ([_, _] : List V) = [_, _]; rfl)))
  | ((with_reducible refine' Exists.intro _ (And.intro ?h1 ?h2)); (case h1 => (first | (show ([_] : List V) = arr _ _ _ _ _; rfl) | (show ([_, _] : List V) = arr _ _ _ _ _; rfl) | (show ([_, _, _] : List V) = arr _ _ _ _ _; rfl)))))
local macro_rules | `(tactic| walk_at "go") => `(tactic| repeat walk_at "st")
local macro_rules | `(tactic| walk_at "bag") => `(tactic| first
  | assumption
  | (refine BagAt.new ?_ (by assumption); walk_at "bag")
  | (refine BagAt.x0 ?_ (by assumption); walk_at "bag"))
local macro_rules | `(tactic| walk_at "ext") => `(tactic| first
  | assumption
  | exact Ext.refl
  | (refine Ext.new ?_ (by assumption); walk_at "ext")
  | (refine Ext.trans ?_ (by assumption); walk_at "ext"))
local macro_rules | `(tactic| walk_at "ams") => `(tactic| first
  | exact Ams.nil
  | (refine Ams.cons ?_ ?_; (first | assumption | (refine am_lit _ _ ?_; walk_at "sq")); walk_at "ams"))
local macro_rules | `(tactic| walk_at "br") => `(tactic| first
  | ((with_reducible refine' r_true ?h1 ?h2); (case h1 => rfl))
  | ((with_reducible refine' r_false ?h1 ?h2); (case h1 => rfl)))
local macro_rules | `(tactic| walk_at "run") => `(tactic| repeat (first | walk_at "st" | walk_at "br"))
local macro_rules | `(tactic| walk_at "am") => `(tactic| first
  | assumption
  | (refine Am.x0 (by assumption) ?_; walk_at "am")
  | (refine Am.n ?_ (by assumption); walk_at "am")
  | (refine Am.b' (by assumption) (by assumption) ?_; walk_at "am"))
set_option maxHeartbeats 1000000
/-! A head whose part of the heap is told by a written list of addresses; its run's looks in pieces. -/
namespace Hk
open PySem PySem.Spec PyProof.Rows L2 He
/-- a def that stands at a path of the part -/
structure DefP where
  path : PySem.W.Frag → Addr
  name : Str
  qual : Str
  params : Arguments
  body : List Stmt
  scope : Scope
  dfl : List Dv := []
  kwd : List (Str × Dv) := []
def DefP.val (d : DefP) : FnW := some (d.name, d.qual, d.params, .stmts d.body, d.scope, mainGlobals, [], builtinsNs)
def DefP.dvs (K : PySem.W.Frag) (d : DefP) : List V := d.dfl.map (Dv.v K)
def DefP.kws (K : PySem.W.Frag) (d : DefP) : List (Str × V) := d.kwd.map fun q => (q.1, q.2.v K)
def seen (K : PySem.W.Frag) (a : Addr) : FnW := match K.lookup a with
  | some o => (match o.data with
    | .func u => some (u.name, u.qualname, u.params, u.body, u.scope, u.globals, u.closure, u.builtins)
    | _ => none)
  | none => none
def good (K : PySem.W.Frag) (d : DefP) (a : Addr) : Bool := PySem.W.keepIn K (.ref a) && match K.lookup a with
  | some o => (match o.data with
    | .func u => PySem.W.codeIn K u.code d.qual && (dflB K u.defaults (d.dvs K) && kwdB K u.kwdefaults (d.kws K))
    | _ => false)
  | none => false
theorem funD_of {K : PySem.W.Frag} {d : DefP} (e : seen K (d.path K) = d.val) (c : good K d (d.path K) = true) : ∃ fd, FunD K d.name d.qual d.params d.body d.scope (d.dvs K) (d.kws K) (d.path K) fd := by
  obtain ⟨kp, c2⟩ := Bool.and_eq_true_iff.mp c
  unfold seen at e
  generalize ha : d.path K = a at *
  cases q : K.lookup a with
  | none => simp only [q] at c2; cases c2
  | some o =>
    simp only [q] at c2 e
    obtain ⟨oc, od, dt, osl⟩ := o
    cases dt with
    | func fd =>
      dsimp only at c2 e
      obtain ⟨k1, k2⟩ := Bool.and_eq_true_iff.mp c2
      obtain ⟨k3, k4⟩ := Bool.and_eq_true_iff.mp k2
      obtain ⟨m1, m2, m3, m4, m5, m6, m7, m8, m9, m10, m11, m12, m13, m14, m15⟩ := fd
      unfold DefP.val at e
      dsimp only at e k1 k3 k4
      injection e with e
      injection e with e1 e; injection e with e2 e; injection e with e3 e; injection e with e4 e; injection e with e5 e; injection e with e6 e; injection e with e7 e8
      subst e1 e2 e3 e4 e5 e6 e7 e8
      exact ⟨_, ⟨oc, od, m8, m9, m10, m11, m12, m13, m14, osl, rfl, q, k1, dflB_ok k3, kwdB_ok k4⟩, kp⟩
    | _ => dsimp only at c2; cases c2
abbrev Al : Type := Bool × List FnW
def look (as : List Addr) (fa : List Fa) (fn : List DefP) (ex : PySem.W.Frag → Bool) (K : PySem.W.Frag) : Al := ((fa.all fun f => f.ok K) && ((fn.all fun d => good K d (d.path K)) && ex K), fn.map fun d => seen K (d.path K))
def due (fn : List DefP) : Al := (true, fn.map DefP.val)
structure Says (fa : List Fa) (fn : List DefP) (ex : PySem.W.Frag → Bool) (K : PySem.W.Frag) : Prop where
  fact : ∀ (i : Nat) (f : Fa), fa[i]? = some f → f.ok K = true
  def_ : ∀ (i : Nat) (d : DefP), fn[i]? = some d → ∃ fd, FunD K d.name d.qual d.params d.body d.scope (d.dvs K) (d.kws K) (d.path K) fd
  more : ex K = true
theorem says_of {as : List Addr} {fa : List Fa} {fn : List DefP} {ex : PySem.W.Frag → Bool} {K : PySem.W.Frag} (e : look as fa fn ex K = due fn) : Says fa fn ex K := by
  have e1 : ((fa.all fun f => f.ok K) && ((fn.all fun d => good K d (d.path K)) && ex K)) = true := congrArg (·.1) e
  have e2 : (fn.map fun d => seen K (d.path K)) = fn.map DefP.val := congrArg (·.2) e
  obtain ⟨h1, h⟩ := Bool.and_eq_true_iff.mp e1
  obtain ⟨h2, h3⟩ := Bool.and_eq_true_iff.mp h
  refine ⟨fun i f hf => List.all_eq_true.mp h1 f (List.mem_of_getElem? hf), fun i d hd => funD_of ?_ (List.all_eq_true.mp h2 d (List.mem_of_getElem? hd)), h3⟩
  have e3 := congrArg (fun l : List FnW => l[i]?) e2
  rw [List.getElem?_map, List.getElem?_map, hd] at e3
  exact Option.some.inj e3
/-- by the written addresses -/
def obG (as : List Addr) (fa : List Fa) (fn : List DefP) (ex : PySem.W.Frag → Bool) (g : Addr → Option Obj) : Al := look as fa fn ex (frG g as)
def hook (as : List Addr) (fa : List Fa) (fn : List DefP) (ex : PySem.W.Frag → Bool) : PySem.W.Hook where
  α := Al
  obs := fun s => obG as fa fn ex s.heap.get?
  val := fun _ => due fn
  says := fun _ h => ∃ K : PySem.W.Frag, K.In h ∧ Says fa fn ex K
  of := fun _ _ e => ⟨_, frG_in, says_of e⟩
  keeps := fun _ _ _ ⟨K, hK, c⟩ k => ⟨K, PySem.W.Frag.In.keeps hK k, c⟩
theorem obG_eq {as : List Addr} {fa : List Fa} {fn : List DefP} {ex : PySem.W.Frag → Bool} {g : Addr → Option Obj} {s : Shared} (h : ∀ a, g a = s.heap.get? a) : obG as fa fn ex g = (hook as fa fn ex).obs s := by
  have e : g = s.heap.get? := funext h
  rw [e]
  rfl
end Hk
namespace Hk
open PySem PySem.W PySem.Spec PyProof.Rows L2 He HandSHeadRun
/-- the def behind a property -/
def getter (K : PySem.W.Frag) (p : Addr) : Addr := match PySem.W.recIn K p "property" with
  | some (.ref g :: _) => g
  | _ => 0
noncomputable abbrev whole (r : OpenRow) (M : Nat) (w : World) := wholeF (fun p => stepQ (denQ tabQ) p w) fenceQ M r.prog
/-- one look at the run's end -/
def At {α : Type} (r : OpenRow) (M : Nat) (w : World) (f : Shared × SharedT → α) (v : α) : Prop := (whole r M w).map f = some v
theorem At.and {r : OpenRow} {M : Nat} {w : World} {f g : Shared × SharedT → Bool} (a : At r M w f true) (b : At r M w g true) : At r M w (fun x => f x && g x) true := by
  obtain ⟨x, hx, ex⟩ := Option.map_eq_some_iff.mp a
  obtain ⟨y, hy, ey⟩ := Option.map_eq_some_iff.mp b
  rw [hx] at hy
  cases hy
  exact Option.map_eq_some_iff.mpr ⟨x, hx, by rw [ex, ey]; rfl⟩
theorem join {r : OpenRow} {q : Program} {M : Nat} {loose : List Str} {w : World} {as : List Addr} {fa : List Fa} {fn : List DefP} {ex : Frag → Bool}
    (a : At r M w (fun x => obG as fa fn ex (getT x.2)) (due fn)) (b : At r M w (fun x => staticsOk (importedModules r.prog.main.body) x.1.heap x.2.abs.heap && laidKept x.1.heap x.2.abs.heap) true)
    (b2 : At r M w (fun x => namesBound r.prog x.2.abs.heap && gensDone x.2.abs) true)
    (c : At r M w (fun x => seenQ q loose (importedModules r.prog.main.body) (fun s => xlAt q [] s && recOk r.toRowW.records s) x.2.abs) (openGood q loose)) : RunEqI r q (hook as fa fn ex) (fun s => obG as fa fn ex (getT s)) M loose w := by
  obtain ⟨x, hx, e1⟩ := Option.map_eq_some_iff.mp a
  obtain ⟨x2, hx2, e2⟩ := Option.map_eq_some_iff.mp b
  obtain ⟨x3, hx3, e3⟩ := Option.map_eq_some_iff.mp b2
  obtain ⟨x4, hx4, e4⟩ := Option.map_eq_some_iff.mp c
  rw [hx] at hx2 hx3 hx4
  cases hx2
  cases hx3
  cases hx4
  obtain ⟨p1, p2⟩ := Bool.and_eq_true_iff.mp e2
  obtain ⟨p3, p4⟩ := Bool.and_eq_true_iff.mp e3
  refine Option.map_eq_some_iff.mpr ⟨x, hx, ?_⟩
  have l : looksF r.prog x.1.heap x.2.abs = true := by
    unfold looksF
    rw [p1, p2, p3, p4]
    rfl
  rw [l, e4]
  exact congrArg (fun z => (true, openGood q loose, z)) e1
end Hk
namespace Hk
open PySem PySem.W PySem.Spec PyProof.Rows L2 He
/-- the class x has the name f as a property -/
def propB (K : Frag) (x f : Str) : Bool := eqO (findIn K (.ref (ga K x)) f) (some (some (.ref (ma K (ga K x) f)))) && (eqO (specialIn K (.ref (ma K (ga K x) f)) "__get__") (some (some (.builtin "property.__get__"))) &&
  (decide (takesIn K (.ref (ma K (ga K x) f)) = some true) && (match recIn K (ma K (ga K x) f) "property" with
    | some (.ref _ :: _) => true
    | _ => false)))
theorem propB_ok {K : Frag} {x f : Str} (h : propB K x f = true) : PropOf K (ga K x) f (ma K (ga K x) f) (getter K (ma K (ga K x) f)) := by
  obtain ⟨h1, h⟩ := Bool.and_eq_true_iff.mp h
  obtain ⟨h2, h⟩ := Bool.and_eq_true_iff.mp h
  obtain ⟨h3, h4⟩ := Bool.and_eq_true_iff.mp h
  refine ⟨eqO_ok h1, eqO_ok h2, of_decide_eq_true h3, ?_⟩
  unfold getter
  cases e : recIn K (ma K (ga K x) f) "property" with
  | none => rw [e] at h4; cases h4
  | some l =>
    rw [e] at h4
    cases l with
    | nil => cases h4
    | cons v r =>
      cases v with
      | ref g => exact ⟨r, rfl⟩
      | _ => cases h4
end Hk

set_option maxHeartbeats 1000000
/-! A hook and an end for a law one of whose defs makes a lambda: the table in its code object is told apart. -/
namespace Hk
open PySem PySem.Spec PyProof.Rows L2 He
def obGT (as : List Addr) (fa : List Fa) (fn : List DefP) (tf : List Defn) (ex : PySem.W.Frag → Bool) (g : Addr → Option Obj) : Al × Bool := (look as fa fn ex (frT g as), tabsB g tf (frT g as))
structure SaysTb (fa : List Fa) (fn : List DefP) (tf : List Defn) (ex : PySem.W.Frag → Bool) (h : Heap) (K : PySem.W.Frag) : Prop where
  s : Says fa fn ex K
  hd : ∀ d ∈ tf, PySem.W.codeHdIn K (cT K d).1 (cT K d).2 = true
  out : ∀ d ∈ tf, K.lookup (cT K d).2 = none
  empty : ∀ d ∈ tf, h.get? (cT K d).2 = some { cls := .none, data := .fields #[] }
theorem saysTb_of {as : List Addr} {fa : List Fa} {fn : List DefP} {tf : List Defn} {ex : PySem.W.Frag → Bool} {h : Heap} (e : obGT as fa fn tf ex h.get? = (due fn, true)) : SaysTb fa fn tf ex h (frT h.get? as) := by
  have e1 : look as fa fn ex (frT h.get? as) = due fn := congrArg (·.1) e
  have e2 : tabsB h.get? tf (frT h.get? as) = true := congrArg (·.2) e
  generalize hK : frT h.get? as = K at *
  have tab : ∀ p ∈ tf, PySem.W.codeHdIn K (cT K p).1 (cT K p).2 = true ∧ ∃ o, h.get? (cT K p).2 = some o ∧ emptyTab o = true := fun p hp => by
    obtain ⟨a, b⟩ := Bool.and_eq_true_iff.mp (List.all_eq_true.mp e2 p hp)
    cases q : h.get? (cT K p).2 with
    | none => rw [q] at b; cases b
    | some o => rw [q] at b; exact ⟨a, o, rfl, b⟩
  refine ⟨says_of e1, fun p hp => (tab p hp).1, fun p hp => ?_, fun p hp => ?_⟩
  · obtain ⟨_, o, q, z⟩ := tab p hp
    have := frT_none (as := as) q z
    rwa [hK] at this
  · obtain ⟨_, o, q, z⟩ := tab p hp
    rw [q, emptyTab_eq z]
def hookT (as : List Addr) (fa : List Fa) (fn : List DefP) (tf : List Defn) (ex : PySem.W.Frag → Bool) : PySem.W.Hook where
  α := Al × Bool
  obs := fun s => obGT as fa fn tf ex s.heap.get?
  val := fun _ => (due fn, true)
  says := fun _ h => ∃ K : PySem.W.Frag, K.In h ∧ SaysTb fa fn tf ex h K
  of := fun _ _ e => ⟨_, frT_in, saysTb_of e⟩
  keeps := fun _ _ _ ⟨K, hK, c⟩ k => ⟨K, PySem.W.Frag.In.keeps hK k, c.s, c.hd, c.out, fun p hp => k _ _ (c.empty p hp)⟩
theorem obGT_eq {as : List Addr} {fa : List Fa} {fn : List DefP} {tf : List Defn} {ex : PySem.W.Frag → Bool} {g : Addr → Option Obj} {s : Shared} (h : ∀ a, g a = s.heap.get? a) : obGT as fa fn tf ex g = (hookT as fa fn tf ex).obs s := by
  obtain rfl : g = s.heap.get? := funext h
  rfl
theorem code_of {K : PySem.W.Frag} {x : Str} {params : Arguments} {body : List Stmt} {scope : Scope} {dvs : List V} {kws : List (Str × V)} {fd : FuncData} (F : FunD K x x params body scope dvs kws (ga K x) fd) : fd.code = .ref (cT K (x, none)).1 := by
  obtain ⟨a1, a2, a3, a4, a5, a6, a7, cdv, a9, a10, e, lk, hcd, _⟩ := F.ex
  subst e
  obtain ⟨c, rfl⟩ := codeIn_ref hcd
  have := codeOf_eq (p := (x, none)) lk rfl
  show Value.ref c = .ref (codeOf K (x, none))
  rw [this]
end Hk
namespace Hk
open PySem PySem.Spec PyProof.Rows L2 LamX
theorem walk_ofET {l : PySem.W.OpenLaw} {n k : Nat} {q : Program} {loose : List Str} {XP : (Str → Option Value) → Heap → Prop} {YP : World → Heap → Prop} {d : DefRec} {CX : CXT} {x : Str} (hn : l.most = some n) (hn2 : n ≤ sizeLine) (hdf : d.params.defaults = []) (hr : Room k callerA)
    (F : ∀ (w : World) (mg : Str → Option Value) (fa : Addr) (h : Heap), YP w h → h.Ns mainGlobals mg → mg d.name = some (.ref fa) → ∃ (K : PySem.W.Frag) (fd : FuncData) (cs : List (Addr × Addr)) (sp : Sp), K.In h ∧ (∀ p ∈ cs, h.get? p.2 = some { cls := .none, data := .fields #[] }) ∧ (∀ p ∈ cs, K.lookup p.2 = none) ∧
      (∀ p ∈ cs, PySem.W.CodeHd h p.1 p.2) ∧ (∀ (s : Shared) (u : Value), BindsTo s fd ⟨[u], []⟩ [(x, u)]) ∧ (∀ (H : Hp) (a : Addr) (ns : List Int), ns.length ≤ n → (∀ p ∈ cs, H p.2 = some (.tbl #[])) → SqL K H a (ns.map V.int) → sp [.ref a] H (fun v _ => v = .bl true) fun _ _ _ => False) ∧
      ∀ base : Heap, K.In base → base.Ns mainGlobals mg → (∀ p ∈ cs, TabB base mg p.1 p.2) → FnOk l.prog w K mg base CX k fa fd [x] sp)
    (hCX : ∀ (H : Hp) (s : Shared) (e : Value) (s' : Shared), CX [] H s (fun _ _ _ => False) e s' → False) : PySem.W.WalkO q loose XP YP l.row.toRowW d [] (fun f vs => PySem.call f vs) := by
  refine Att.attach_callB hn hdf fun w s0 s1 mg mb fa o pm cd doc a vs ns G Y ho hd hcd hmg hobj hints hlen hbits hg => ?_
  obtain ⟨K, fd, cs, sp, KX, hT, nT, C, hb, hsp, hF⟩ := F w mg fa _ Y G.T.g hmg
  exact law_callTs KX G.T.g G.T.b G.T.builtins G.T.nolimit hg hT nT C G.T.bmain hobj hints (Nat.le_trans hlen hn2) hr hF hb (fun H hH hS => hsp H a ns hlen hH hS) fun H e s' => hCX H s1 e s'
end Hk

set_option maxHeartbeats 1000000
/-! Classes: fields, methods and making by names; all promises are told by place. -/
namespace Yk
open PySem PySem.Spec PyProof.Rows L2
/-- a class of the text: its name's place, and the fields that its text has not -/
structure Ct (K : PySem.W.Frag) (mg : Str → Option Value) (x : Str) (C : Addr) (fs : List Str) : Prop where
  hm : mg x = some (.ref C)
  cls : Cls K C
  no : ∀ f ∈ fs, NoAttr K C f
/-- the object at a -/
def Ob (H : Hp) (C : Addr) (a : Addr) (fs : List (Str × V)) : Prop := ∃ dx, H a = some (.ins C dx fs)
theorem Ob.x {S : List Addr} {H H1 : Hp} {C a : Addr} {fs : List (Str × V)} (e : Ext S H H1) (h : Ob H C a fs) (hs : ∀ b ∈ S, ∃ l, H b = some (.lst l)) : Ob H1 C a fs := by
  obtain ⟨dx, h⟩ := h
  exact ⟨dx, e a _ h fun z => by obtain ⟨l, q⟩ := hs a z; rw [h] at q; cases q⟩
theorem Ob.x0 {H H1 : Hp} {C a : Addr} {fs : List (Str × V)} (e : Ext [] H H1) (h : Ob H C a fs) : Ob H1 C a fs := h.x e fun _ z => nomatch z
section
variable {X : Cx} {C : Addr} {x f m : Str} {fs : List Str} {o e value : Expr} {pos pos' p apos : Pos} {te ta tv : TE}
/-- e.f -/
def tAt (C : Addr) (f : Str) (te : TE) : TE := fun σ H Q => te σ H fun x H1 => ∃ a dx fs v, x = .ref a ∧ H1 a = some (.ins C dx fs) ∧ fs.lookup f = some v ∧ Q v H1
theorem pe_at (c : Ct X.K X.mg x C fs) (hf : f ∈ fs) (he : PE X e te) (hb : attributeBase e f X.env (eval e X.env) = eval e X.env := by rfl) : PE X (.Attribute e f pos) (tAt C f te) := by
  refine ⟨fun pins s σ H Q I h => ?_⟩
  refine attr_of hb (thn (he.run pins s σ H _ I h) fun u s1 ⟨x, H1, I1, rx, a, dx, fs, v, ex, ea, l, q⟩ => ?_)
  subst ex
  obtain rfl : u = Value.ref a := rx
  exact getattr_ok I1 ea c.cls (c.no _ hf) l fun u' s2 I2 ru => ⟨v, H1, I2, ru, q⟩
theorem r_at {a : Addr} {v : V} {fs : List (Str × V)} {σ : L2.St} {H : Hp} {Q : VK} (h1 : Ob H C a fs) (h2 : fs.lookup f = some v) (h : Q v H) : (fun x H1 => ∃ a dx fs v, x = V.ref a ∧ H1 a = some (.ins C dx fs) ∧ fs.lookup f = some v ∧ Q v H1) (V.ref a) H := by
  obtain ⟨dx, h1⟩ := h1
  exact ⟨a, dx, fs, v, rfl, h1, h2, h⟩
/-- e.f = value -/
def sAt (C : Addr) (f : Str) (te tv : TE) : TS := fun D σ H => tv σ H fun y H1 => te σ H1 fun x H2 => ∃ a dx fs, x = .ref a ∧ H2 a = some (.ins C dx fs) ∧ fs.length < 1000 ∧ D.nx σ (upd H2 a (.ins C dx (putF f y fs)))
theorem ps_at (c : Ct X.K X.mg x C fs) (hf : f ∈ fs) (ha : PE X o te) (hv : PE X value tv) (hs : swapsWith value (some (.Attribute o f pos')) pos.line X.env = pure false := by rfl) : PS X (.Assign [.Attribute o f pos'] value pos) (sAt C f te tv) := by
  refine ⟨fun pins s σ H D I h => ?_⟩
  refine plainObj_wpAny_Assign_Attribute (thn (hv.run pins s σ H _ I h) fun u s1 ⟨y, H1, I1, ry, q⟩ => thn (ha.run pins s1 σ H1 _ I1 q) fun ov s2 ⟨x, H2, I2, rx, a, dx, fs, ex, ea, l, q2⟩ => ?_) hs
  subst ex
  obtain rfl : ov = Value.ref a := rx
  exact setattr_ok I2 ea c.cls (c.no _ hf) l ry fun s3 I3 => ⟨σ, _, I3, q2⟩
end
section
variable (P : Program) (w : World) (K : PySem.W.Frag) (mg : Str → Option Value) (base : Heap)
/-- a method -/
structure Mt (k : Nat) (C : Addr) (m : Str) (sp : Sp) : Prop where
  run : ∃ f, Cls K C ∧ Meth K C m f ∧ FnR P w K mg base CX0 k f sp
/-- what makes an object: by place -/
structure Cr (k : Nat) (x : Str) (C : Addr) (sp : Sp) : Prop where
  run : ∃ f, mg x = some (.ref C) ∧ Mk K C f ∧ FnR P w K mg base CX0 k f sp
/-- .. with n values by place and the keywords ks: the parameters (the object ahead) are gV's -/
structure CrK (k : Nat) (x : Str) (C : Addr) (n : Nat) (ks : List Str) (gV : List V → List V → List V) (sp : Sp) : Prop where
  run : ∃ f fd ps g, mg x = some (.ref C) ∧ Mk K C f ∧ FnOk P w K mg base CX0 k f fd ps sp ∧ KBn K fd ps (n + 1) ks g gV
end
section
variable {X : Cx} {k n : Nat} {C : Addr} {sp : Sp} {x m : Str} {o e : Expr} {es : List Expr} {kws : List Keyword} {pos p apos : Pos} {te : TE} {t tk : TA} {pl : Sem Bool} {ks : List Str} {gV : List V → List V → List V}
/-- o.m(..) -/
def tMt (C : Addr) (m : Str) (sp : Sp) (te : TE) (t : TA) : TE := fun σ H Q => te σ H fun x H1 => ∃ a dx fs, x = .ref a ∧ H1 a = some (.ins C dx fs) ∧ fs.lookup m = none ∧ t σ H1 fun vs H2 => sp (x :: vs) H2 Q E0
theorem pe_mt (F : Mt X.prog X.w X.K X.mg X.base k C m sp) (hr : Room k X.A) (he : PE X o te) (ha : PA X (e :: es) t) (hx : Passes CX0 X E0 := by exact pass0)
    (hst : starEach (e :: es) X.env = (false, eval e X.env) :: starEach es X.env := by rfl) (hpl : (backTo pos (starEach es X.env)).any (·.1) = false := by rfl)
    (ht : eval (.Call (.Attribute o m apos) (e :: es) [] pos) X.env = (do
      let ov ← eval o X.env
      standAt apos.atName
      let (f, first) ← holding [ov] (getMethod ov m pl)
      callWith pos f first (backTo pos (starEach (e :: es) X.env)) (backToKw pos (keywordEach [] X.env))) := by rfl) :
    PE X (.Call (.Attribute o m apos) (e :: es) [] pos) (tMt C m sp te t) := by
  obtain ⟨f, c, hm, F⟩ := F.run
  refine ⟨fun pins s σ H Q I h => ?_⟩
  refine PySem.W.methodCall_KW (pl := pl) (thn (he.run pins s σ H _ I h) fun u s1 ⟨x, H1, I1, rx, a, dx, fs, ex, ea, l, q⟩ => ?_) ht
  subst ex
  obtain rfl : u = Value.ref a := rx
  refine getmeth_ok I1 ea c hm l ?_
  refine PySem.W.callWith_K (first := [.ref a]) (h₀ := X.base) I.ok.mod.kin hm.kp (thn (ha.run pos pins s1 σ H1 _ I1 q) fun us s2 ⟨vs, H2, I2, r, q2⟩ => ⟨I2.kIn, ?_⟩) hst hpl
  exact wpAny_call (run_fnR (us := .ref a :: us) (vs := .ref a :: vs) F hr hx I2 (.cons rfl r) q2)
theorem pe_mt0 (F : Mt X.prog X.w X.K X.mg X.base k C m sp) (hr : Room k X.A) (he : PE X o te) (hx : Passes CX0 X E0 := by exact pass0)
    (ht : eval (.Call (.Attribute o m apos) [] [] pos) X.env = (do
      let ov ← eval o X.env
      standAt apos.atName
      let (f, first) ← holding [ov] (getMethod ov m pl)
      callWith pos f first (backTo pos (starEach [] X.env)) (backToKw pos (keywordEach [] X.env))) := by rfl) :
    PE X (.Call (.Attribute o m apos) [] [] pos) (tMt C m sp te tNil) := by
  obtain ⟨f, c, hm, F⟩ := F.run
  refine ⟨fun pins s σ H Q I h => ?_⟩
  refine PySem.W.methodCall_KW (pl := pl) (thn (he.run pins s σ H _ I h) fun u s1 ⟨x, H1, I1, rx, a, dx, fs, ex, ea, l, q⟩ => ?_) ht
  subst ex
  obtain rfl : u = Value.ref a := rx
  refine getmeth_ok I1 ea c hm l ?_
  exact PySem.W.callWith_K0 (first := [.ref a]) I1.kIn hm.kp (wpAny_call (run_fnR (us := [.ref a]) (vs := [.ref a]) F hr hx I1 (.cons rfl .nil) q))
/-- C(e, ..) -/
def tCr (C : Addr) (sp : Sp) (t : TA) : TE := fun σ H Q => t σ H fun vs H1 => ∀ x dx, H1 x = Option.none → H1 dx = Option.none → dx ≠ x → sp (V.ref x :: vs) (upd (upd H1 dx (.own x)) x (.ins C dx [])) (fun v H2 => v = .non ∧ Q (.ref x) H2) E0
theorem pe_cr (F : Cr X.prog X.w X.K X.mg X.base k x C sp) (hr : Room (k + 1) X.A) (ha : PA X (e :: es) t) (hg : Gl X x := by rfl) (hx : Passes CX0 X E0 := by exact pass0) (hdb : (x == ("__debug__" : Str)) = false := by decide)
    (he : starEach (e :: es) X.env = (false, eval e X.env) :: starEach es X.env := by rfl) (hpl : (backTo pos (starEach es X.env)).any (·.1) = false := by rfl) : PE X (.Call (.Name x p) (e :: es) [] pos) (tCr C sp t) := by
  obtain ⟨f, hm, M, F⟩ := F.run
  exact StX.pe_makeR M F hr hg hm hx ha hdb he hpl
/-- C(e, .., *x) -/
theorem pe_crS2 (F : Cr X.prog X.w X.K X.mg X.base k x C sp) (hr : Room (k + 1) X.A) (ha : PA X (e :: es) t) (hg : Gl X x := by rfl) (hx : Passes CX0 X E0 := by exact pass0) (hdb : (x == ("__debug__" : Str)) = false := by decide)
    (he : starEach (e :: es) X.env = (false, eval e X.env) :: starEach es X.env := by rfl) (hst : (backTo pos (starEach es X.env)).any (·.1) = true := by rfl) : PE X (.Call (.Name x p) (e :: es) [] pos) (tCr C sp t) := by
  obtain ⟨f, hm, M, F⟩ := F.run
  refine ⟨fun pins s σ H Q I h => ?_⟩
  refine wpAny_Call_Name_kw (ld_glob I hg hm ?_ hdb)
  refine PySem.W.callWith_S2 (h₀ := X.base) I.ok.mod.kin M.kp (thn (ha.run pos pins s σ H _ I h) fun us s1 ⟨vs, H1, I1, r, q⟩ => ⟨I1.kIn, ?_⟩) he hst
  exact StX.run_makeR M F hr hx I1 r q
/-- C(e, .., k = v, ..) -/
def tCrK (C : Addr) (n m : Nat) (sp : Sp) (gV : List V → List V → List V) (t tk : TA) : TE := fun σ H Q => t σ H fun vs H1 => tk σ H1 fun zs H2 => vs.length = n ∧ zs.length = m ∧ ∀ x dx, H2 x = none → H2 dx = none → dx ≠ x →
  sp (gV (.ref x :: vs) zs) (upd (upd H2 dx (.own x)) x (.ins C dx [])) (fun v H3 => v = .non ∧ Q (.ref x) H3) E0
theorem pe_crK (F : CrK X.prog X.w X.K X.mg X.base k x C n ks gV sp) (hr : Room (k + 1) X.A) (ha : PA X (e :: es) t) (hkw : PK X kws tk) (hg : Gl X x := by rfl) (hx : Passes CX0 X E0 := by exact pass0)
    (hall : (backToKw pos (keywordEach kws X.env)).all (·.1.isSome) = true := by rfl) (hks : (backToKw pos (keywordEach kws X.env)).filterMap (·.1) = ks := by rfl) (hdb : (x == ("__debug__" : Str)) = false := by decide)
    (he : starEach (e :: es) X.env = (false, eval e X.env) :: starEach es X.env := by rfl) (hpl : ((backTo pos (starEach (e :: es) X.env)).any (·.1) || (backToKw pos (keywordEach kws X.env)).any (·.1.isNone)) = false := by rfl) :
    PE X (.Call (.Name x p) (e :: es) kws pos) (tCrK C n ks.length sp gV t tk) := by
  obtain ⟨f, fd, ps, g, hm, M, F, hb⟩ := F.run
  exact pe_makeK M F hr hg hm hb hx ha hkw hall hks hdb he hpl
theorem pe_crK0 (F : CrK X.prog X.w X.K X.mg X.base k x C 0 ks gV sp) (hr : Room (k + 1) X.A) (hkw : PK X kws tk) (hg : Gl X x := by rfl) (hx : Passes CX0 X E0 := by exact pass0)
    (hall : (backToKw pos (keywordEach kws X.env)).all (·.1.isSome) = true := by rfl) (hks : (backToKw pos (keywordEach kws X.env)).filterMap (·.1) = ks := by rfl) (hdb : (x == ("__debug__" : Str)) = false := by decide)
    (hpl : ((backTo pos (starEach [] X.env)).any (·.1) || (backToKw pos (keywordEach kws X.env)).any (·.1.isNone)) = false := by rfl) :
    PE X (.Call (.Name x p) [] kws pos) (tCrK C 0 ks.length sp gV tNil tk) := by
  obtain ⟨f, fd, ps, g, hm, M, F, hb⟩ := F.run
  exact pe_makeK0 M F hr hg hm hb hx hkw hall hks hdb hpl
end
section
variable {P : Program} {w : World} {K : PySem.W.Frag} {mg : Str → Option Value} {base : Heap} {f C : Addr} {fd : FuncData} {x qual : Str} {params : Arguments} {body : List Stmt} {scope : Scope} {dvs : List V} {kws : List (Str × V)} {N ps : List Str} {k : Nat} {sp : Sp}
/-- a method (or a def with defaults) keeps its promise -/
theorem ok_meth (F : FunD K x qual params body scope dvs kws f fd) (S : FnScope N ps scope) (len : ∀ vs H Q E, sp vs H Q E → vs.length = ps.length)
    (hbody : ∀ (cdv : Value) (A : Around) (outer : List Env) (s : Shared) (H : Hp) (vs : List V) (Q : VK) (E : XK), Room k (A.deeper (envOfC qual scope s.heap.objs.size f cdv)) → sp vs H Q E →
      ∃ t, PSs (cxOf CX0 P w K mg base N qual scope f cdv A outer s H E).nox body t ∧ t ⟨fun _ H' => Q .non H', Q, fun _ _ => False, fun _ _ => False⟩ (start N vs) H) : FnOk P w K mg base CX0 (k + 1) f fd ps sp :=
  F.ok S len fun cdv A outer s H vs Q E hr h => by
    obtain ⟨t, h1, h2⟩ := hbody cdv A outer s H vs Q E hr h
    exact ⟨t, h1.nox, h2⟩
theorem raw_meth (F : FunD K x qual params body scope [] [] f fd) (G : FnOk P w K mg base CX0 k f fd ps sp)
    (hb : ∀ (kV doc pm : Value) (an : Option Addr) (cdv ct : Value) (us : List Value), us.length = ps.length → bindArgs (PySem.W.fnOf x qual params body scope .none kV doc pm an cdv ct) ⟨us, []⟩ = pure (ps.zip us)) : FnR P w K mg base CX0 k f sp := by
  have b := F.bindsN hb
  have R := G.raw b .nil
  refine R.imp fun vs H Q E h => ?_
  rw [List.append_nil]
  exact h
/-- def m(self, .., *v) -/
theorem raw_star {pv : Str} {sp' : Sp} (F : FunD K x qual params body scope [] [] f fd) (S : FnScope N (ps ++ [pv]) scope)
    (hb : ∀ (kV doc pm : Value) (an : Option Addr) (cdv ct : Value) (us rest : List Value), us.length = ps.length → bindArgs (PySem.W.fnOf x qual params body scope .none kV doc pm an cdv ct) ⟨us ++ rest, []⟩ = (newTuple rest >>= fun t => pure (ps.zip us ++ [(pv, t)])))
    (hbody : ∀ (cdv : Value) (A : Around) (outer : List Env) (s : Shared) (H : Hp) (vs : List V) (Q : VK) (E : XK), Room k (A.deeper (envOfC qual scope s.heap.objs.size f cdv)) → sp vs H Q E →
      ∃ t, PSs (cxOf CX0 P w K mg base N qual scope f cdv A outer s H E).nox body t ∧ t ⟨fun _ H' => Q .non H', Q, fun _ _ => False, fun _ _ => False⟩ (start N vs) H)
    (himp : ∀ vs H Q E, sp' vs H Q E → ∃ ws rest, vs = ws ++ rest ∧ ws.length = ps.length ∧ rest.length ≤ sizeLine ∧ ∀ p, H p = none → sp (ws ++ [V.ref p]) (upd H p (.tup rest)) Q E) : FnR P w K mg base CX0 (k + 1) f sp' := by
  obtain ⟨oc, od, dV, kV, doc, pm, an, cdv, ct, osl, rfl, lk, hcd, hD, _⟩ := F.ex
  rcases hD with ⟨_, rfl⟩ | ⟨e, _⟩
  · have R := StX.fn_star (P := P) (w := w) (mg := mg) (base := base) (sp := sp) lk hcd S StX.cxUp_none (hb kV doc pm an cdv ct) (fun A outer s H vs Q E hr h => let ⟨t, h1, h2⟩ := hbody cdv A outer s H vs Q E hr h; ⟨t, h1.nox, h2⟩)
    exact R.imp himp
  · exact absurd rfl e
theorem mt_of (c : Cls K C) (hm : Meth K C x f) (R : FnR P w K mg base CX0 k f sp) : Mt P w K mg base k C x sp := ⟨f, c, hm, R⟩
theorem cr_of {y : Str} (hy : mg y = some (.ref C)) (M : Mk K C f) (R : FnR P w K mg base CX0 k f sp) : Cr P w K mg base k y C sp := ⟨f, hy, M, R⟩
end
end Yk
namespace Yk
open PySem PySem.Spec PyProof.Rows L2
theorem upd_upd {H : Hp} {a : Addr} {x y : HO} : upd (upd H a x) a y = upd H a y := by
  funext b
  by_cases h : a = b
  · subst h; rw [upd_same, upd_same]
  · rw [upd_ne (Ne.symm h), upd_ne (Ne.symm h), upd_ne (Ne.symm h)]
theorem upd_self {H : Hp} {a : Addr} {x : HO} (h : H a = some x) : upd H a x = H := by
  funext b
  by_cases q : a = b
  · subst q; rw [upd_same, h]
  · rw [upd_ne (Ne.symm q)]
section
variable {nx : L2.St → Hp → Prop} {rt : VK} {bk ct : L2.St → Hp → Prop} {σ : L2.St} {H : Hp} {K : PySem.W.Frag} {Q : VK} {te ta tb tc tv : TE} {C a dx : Addr} {f m : Str} {fs : List (Str × V)} {v y : V} {r r' : R2} {sp : Sp} {t tk : TA}
theorem r_tAt (h : te σ H fun x H1 => ∃ a dx fs v, x = .ref a ∧ H1 a = some (.ins C dx fs) ∧ fs.lookup f = some v ∧ Q v H1) : tAt C f te σ H Q := h
theorem r_fld {R : V → Prop} (h1 : H a = some (.ins C dx fs)) (h2 : fs.lookup f = some v) (h : R v) : ∃ a' dx' fs' v', V.ref a = .ref a' ∧ H a' = some (.ins C dx' fs') ∧ fs'.lookup f = some v' ∧ R v' := ⟨a, dx, fs, v, rfl, h1, h2, h⟩
theorem r_sAt (h : tv σ H fun y H1 => te σ H1 fun x H2 => ∃ a dx fs, x = .ref a ∧ H2 a = some (.ins C dx fs) ∧ fs.length < 1000 ∧ nx σ (upd H2 a (.ins C dx (putF f y fs)))) : sAt C f te tv ⟨nx, rt, bk, ct⟩ σ H := h
theorem r_put {R : Hp → Prop} (h1 : H a = some (.ins C dx fs)) (h2 : fs.length < 1000) (h : R (upd H a (.ins C dx (putF f y fs)))) : ∃ a' dx' fs', V.ref a = .ref a' ∧ H a' = some (.ins C dx' fs') ∧ fs'.length < 1000 ∧ R (upd H a' (.ins C dx' (putF f y fs'))) := ⟨a, dx, fs, rfl, h1, h2, h⟩
theorem putF_lt {N : Nat} (h : fs.length < N) : (putF f v fs).length < N + 1 := Nat.lt_of_le_of_lt (length_putF f v fs) (by omega)
theorem r_putU {R : Hp → Prop} (h2 : fs.length < 1000) (h : R (upd H a (.ins C dx (putF f y fs)))) : ∃ a' dx' fs', V.ref a = .ref a' ∧ upd H a (.ins C dx fs) a' = some (.ins C dx' fs') ∧ fs'.length < 1000 ∧ R (upd (upd H a (.ins C dx fs)) a' (.ins C dx' (putF f y fs'))) :=
  ⟨a, dx, fs, rfl, upd_same, h2, by rw [upd_upd]; exact h⟩
theorem r_tMt (h : te σ H fun x H1 => ∃ a dx fs, x = .ref a ∧ H1 a = some (.ins C dx fs) ∧ fs.lookup m = none ∧ t σ H1 fun vs H2 => sp (x :: vs) H2 Q E0) : tMt C m sp te t σ H Q := h
theorem r_met {R : Prop} (h1 : H a = some (.ins C dx fs)) (h2 : fs.lookup m = none) (h : R) : ∃ a' dx' fs', V.ref a = .ref a' ∧ H a' = some (.ins C dx' fs') ∧ fs'.lookup m = none ∧ R := ⟨a, dx, fs, rfl, h1, h2, h⟩
theorem r_tCr (h : t σ H fun vs H1 => ∀ x dx, H1 x = Option.none → H1 dx = Option.none → dx ≠ x → sp (V.ref x :: vs) (upd (upd H1 dx (.own x)) x (.ins C dx [])) (fun v H2 => v = .non ∧ Q (.ref x) H2) E0) : tCr C sp t σ H Q := h
theorem r_tCrK {n k : Nat} {gV : List V → List V → List V} (h : t σ H fun vs H1 => tk σ H1 fun zs H2 => vs.length = n ∧ zs.length = k ∧ ∀ x dx, H2 x = none → H2 dx = none → dx ≠ x →
  sp (gV (.ref x :: vs) zs) (upd (upd H2 dx (.own x)) x (.ins C dx [])) (fun v H3 => v = .non ∧ Q (.ref x) H3) E0) : tCrK C n k sp gV t tk σ H Q := h
theorem r_chain (h : ta σ H fun x H1 => tb σ H1 fun y H2 => r x y H2 fun z H3 => ∃ k, z = .bl k ∧ (if k = true then tc σ H3 fun w' H4 => r' y w' H4 Q else Q (.bl false) H3)) : tChain r r' ta tb tc σ H Q := h
theorem r_in {neg : Bool} {p : Addr} {xs : List V} {x : V} (h1 : SqL K H p xs ∨ SqT K H p xs) (h2 : flatV x = true) (h3 : xs.all flatV = true) (h : Q (.bl (if neg then !inV x xs else inV x xs)) H) : rIn K neg x (.ref p) H Q := ⟨p, xs, rfl, h1, h2, h3, h⟩
end
/-! isinstance of the text's own classes; constants of a class -/
/-- the type of the class's objects is the class -/
structure Ty1 (K : PySem.W.Frag) (C : Addr) : Prop where
  ty : ∀ (H : Hp) (a dx : Addr) (fs : List (Str × V)), H a = some (.ins C dx fs) → TyX K H (.ref a) (.ref C)
section
variable {H : Hp} {K : PySem.W.Frag} {Q : VK} {C D D1 D2 a p dx : Addr} {fs : List (Str × V)} {b : Bool} {te : TE} {f : Str} {σ : L2.St}
theorem r_isiO (Y : Ty1 K C) (h : H a = some (.ins C dx fs)) (e : PySem.W.kitOne K (.ref C) (.ref D) = some b) (k : Q (.bl b) H) : rIsi K [.ref a, .ref D] H Q := ⟨.ref a, .ref D, .ref C, .ref D, b, rfl, .own D, Y.ty _ _ _ _ h, e, k⟩
theorem r_isiOT (Y : Ty1 K C) (hp : H p = some (.tup [.ref D1, .ref D2])) (h : H a = some (.ins C dx fs)) (e : PySem.W.kitAny K (.ref C) [.ref D1, .ref D2] = some b) (k : Q (.bl b) H) : rIsiT K [.ref a, .ref p] H Q :=
  ⟨.ref a, p, [.ref D1, .ref D2], .ref C, [.ref D1, .ref D2], b, rfl, hp, .cons (.own D1) (.cons (.own D2) .nil), Y.ty _ _ _ _ h, e, k⟩
/-- C.f, a constant of the class -/
theorem r_cval {mc : Value} {v : V} {u : Value} (r : ClX.CRead K C mc) (c : ClX.CVal K C mc f v u) (h : Q v H) : ClX.tCVal K (tC (.ref C)) f σ H Q := ⟨C, mc, v, u, rfl, r, c, h⟩
end
end Yk
namespace Yk
open PySem PySem.Spec PyProof.Rows L2
section
variable (P : Program) (w : World) (K : PySem.W.Frag) (mg : Str → Option Value) (base : Heap)
/-- a property -/
structure Pr (k : Nat) (C : Addr) (f : Str) (sp : Sp) : Prop where
  run : ∃ p g fd, Cls K C ∧ PropOf K C f p g ∧ FnOk P w K mg base CX0 k g fd ["self"] sp ∧ Binds K fd ["self"] []
end
section
variable {X : Cx} {k : Nat} {C : Addr} {f : Str} {sp : Sp} {e : Expr} {te : TE} {pos : Pos}
/-- e.f, f a property -/
def tPr (C : Addr) (sp : Sp) (te : TE) : TE := fun σ H Q => te σ H fun x H1 => ∃ a dx fs, x = .ref a ∧ H1 a = some (.ins C dx fs) ∧ sp [.ref a] H1 Q E0
theorem pe_pr (F : Pr X.prog X.w X.K X.mg X.base k C f sp) (hr : Room (k + 1) X.A) (he : PE X e te) (hab : attributeBase e f X.env (eval e X.env) = eval e X.env := by rfl) : PE X (.Attribute e f pos) (tPr C sp te) := by
  obtain ⟨p, g, fd, c, hp, G, hb⟩ := F.run
  exact pe_prop he c hp G hr hb .nil pass0 hab
theorem r_tPr {σ : L2.St} {H : Hp} {Q : VK} (h : te σ H fun x H1 => ∃ a dx fs, x = .ref a ∧ H1 a = some (.ins C dx fs) ∧ sp [.ref a] H1 Q E0) : tPr C sp te σ H Q := h
theorem r_prp {H : Hp} {a dx : Addr} {fs : List (Str × V)} {R : Prop} (h1 : H a = some (.ins C dx fs)) (h : R) : ∃ a' dx' fs', V.ref a = .ref a' ∧ H a' = some (.ins C dx' fs') ∧ R := ⟨a, dx, fs, rfl, h1, h⟩
end
end Yk

set_option maxHeartbeats 1000000
/-! zip of three, each a list or a tuple. -/
namespace Yk
open PySem PySem.Spec PyProof.Rows L2
/-- a list (true) or a tuple at a -/
def SqB (K : PySem.W.Frag) (k : Bool) (H : Hp) (a : Addr) (xs : List V) : Prop := match k with
  | true => SqL K H a xs
  | false => SqT K H a xs
/-- its iterator -/
def ItB (k : Bool) (h : Heap) (it l : Addr) (i : Nat) : Prop := match k with
  | true => h.IsListIter it l i
  | false => h.IsTupleIter it l i
def SeB (k : Bool) (h : Heap) (l : Addr) (items : Array Value) : Prop := match k with
  | true => h.IsList l items
  | false => h.IsTuple l items
def ioB (k : Bool) (l : Addr) : Obj := match k with
  | true => { cls := .type "list_iterator", data := .fields #[.ref l, .int 0 0] }
  | false => { cls := .type "tuple_iterator", data := .fields #[.ref l, .int 0 0] }
theorem drawsB {prog : Program} {w : World} {A : Around} (hh : A.handled = none) (k : Bool) (it l : Addr) (hne : l ≠ it) (items : Array Value) :
    Draws prog w A it [it, l] items.size (fun i v => items[i]? = some v) (fun i h => ItB k h it l i ∧ SeB k h l items) := by
  cases k with
  | true => exact Draws.list hh it l hne items
  | false => exact Draws.tuple hh it l hne items
theorem beginsB (k : Bool) (l : Addr) (items : Array Value) : Begins (.ref l) (ioB k l) fun h => SeB k h l items := by
  cases k with
  | true => exact begins_list l items
  | false => exact begins_tuple l items
theorem ItB.at_ {k : Bool} {h h' : Heap} {it l : Addr} {i : Nat} (x : ItB k h it l i) (e : ∀ o, h.get? it = some o → h'.get? it = some o) : ItB k h' it l i := by
  cases k with
  | true => exact Heap.IsListIter.at x e
  | false => exact Heap.IsTupleIter.at x e
theorem ItB.ob {k : Bool} {h : Heap} {it l : Addr} {i : Nat} (x : ItB k h it l i) : ∃ o, h.get? it = some o ∧ ∀ v, o.data ≠ .cell v := by
  cases k with
  | true => obtain ⟨o, e, _, d⟩ := x; exact ⟨o, e, fun v q => by rw [d] at q; cases q⟩
  | false => obtain ⟨o, e, _, d⟩ := x; exact ⟨o, e, fun v q => by rw [d] at q; cases q⟩
theorem itB_new {k : Bool} {h : Heap} {it l : Addr} (e : h.get? it = some (ioB k l)) : ItB k h it l 0 := by
  cases k with
  | true => exact ⟨_, e, rfl, rfl⟩
  | false => exact ⟨_, e, rfl, rfl⟩
theorem seB_of {X : Cx} {pins : List (Addr × Obj)} {σ : L2.St} {H : Hp} {s : Shared} {k : Bool} {a : Addr} {xs : List V} (I : Inv X pins σ H s) (h : SqB X.K k H a xs) : ∃ its, Vals xs its ∧ SeB k s.heap a its.toArray ∧ a < s.heap.objs.size := by
  cases k with
  | true =>
    obtain ⟨its, rv, p, _⟩ := I.list h
    exact ⟨its, rv, p.isList, p.lt⟩
  | false =>
    obtain ⟨its, rv, p, _⟩ := I.tuple h
    have p' : s.heap.IsTuple a its.toArray := p
    obtain ⟨o, ho, _⟩ := id p'
    exact ⟨its, rv, p', Heap.lt_size ho⟩
theorem sqB_inj {X : Cx} {pins : List (Addr × Obj)} {σ : L2.St} {H : Hp} {s : Shared} {k : Bool} {a : Addr} {xs ys : List V} (I : Inv X pins σ H s) (h : SqB X.K k H a xs) (g : SqB X.K k H a ys) : ys = xs := by
  cases k with
  | true => exact I.list_inj g h
  | false => exact I.tuple_inj g h
/-- three as they stand at each turn, the items in new triples -/
def ItZ3 (K : PySem.W.Frag) (k1 k2 k3 : Bool) (a b c : Addr) : It :=
  ⟨fun i H => ∃ (xs ys zs : List V) (x y z : V), SqB K k1 H a xs ∧ SqB K k2 H b ys ∧ SqB K k3 H c zs ∧ xs[i]? = some x ∧ ys[i]? = some y ∧ zs[i]? = some z,
    fun i H v H' => ∃ T x y z, v = .ref T ∧ H T = none ∧ H' = upd H T (.tup [x, y, z]) ∧ (∀ xs, SqB K k1 H a xs → xs[i]? = some x) ∧ (∀ ys, SqB K k2 H b ys → ys[i]? = some y) ∧ ∀ zs, SqB K k3 H c zs → zs[i]? = some z,
    fun i H => ∃ xs ys zs : List V, SqB K k1 H a xs ∧ SqB K k2 H b ys ∧ SqB K k3 H c zs ∧ xs.length = i ∧ ys.length = i ∧ zs.length = i⟩
structure Z3Apart (z TI TO i1 i2 i3 a b c : Addr) : Prop where
  nd : [z, TI, TO, i1, i2, i3].Nodup
  a : a ∉ [z, TI, TO, i1, i2, i3]
  b : b ∉ [z, TI, TO, i1, i2, i3]
  c : c ∉ [z, TI, TO, i1, i2, i3]
theorem Z3Apart.sep {z TI TO i1 i2 i3 a b c : Addr} (D : Z3Apart z TI TO i1 i2 i3 a b c) : ZipSep3 z TI TO i1 i2 i3 [i1, a] [i2, b] [i3, c] := by
  have h := D.nd
  have ha := D.a
  have hb := D.b
  have hc := D.c
  simp only [List.nodup_cons, List.mem_cons, List.not_mem_nil, or_false, not_or] at h ha hb hc
  constructor <;> (try simp only [List.mem_cons, List.not_mem_nil, or_false, not_or, true_or]) <;> grind
theorem turn_z3 {P : Program} {w : World} {K : PySem.W.Frag} {elts : List Expr} {kk : Nat} {tpos : Pos} {k1 k2 k3 : Bool} {a b c z TI TO i1 i2 i3 : Addr} (D : Z3Apart z TI TO i1 i2 i3 a b c) :
    Turn P w K (.Tuple elts kk tpos) (ItZ3 K k1 k2 k3 a b c) [z, TI, TO, i1, i2, i3] z (fun i h => IsZip h z TI TO .none ∧ IsTupOf3 h TI (.ref i1) (.ref i2) (.ref i3) ∧ (∃ x y u, IsTupOf3 h TO x y u) ∧ ItB k1 h i1 a i ∧ ItB k2 h i2 b i ∧ ItB k3 h i3 c i) where
  mem := by simp
  obj := fun i h st d hd => by
    obtain ⟨hz, hTI, ⟨x, y, u, hTO⟩, h1, h2, h3⟩ := st
    have e' : d = z ∨ d = TI ∨ d = TO ∨ d = i1 ∨ d = i2 ∨ d = i3 := by simpa using hd
    rcases e' with q | q | q | q | q | q
    · rw [q]; exact ⟨_, hz, fun v q => nomatch q⟩
    · rw [q]; exact ⟨_, hTI, fun v q => nomatch q⟩
    · rw [q]; exact ⟨_, hTO, fun v q => nomatch q⟩
    · rw [q]; exact h1.ob
    · rw [q]; exact h2.ob
    · rw [q]; exact h3.ob
  keep := fun i h h' st k => by
    obtain ⟨hz, hTI, ⟨x, y, u, hTO⟩, h1, h2, h3⟩ := st
    exact ⟨k z (by simp) _ hz, k TI (by simp) _ hTI, ⟨x, y, u, k TO (by simp) _ hTO⟩, h1.at_ fun o q => k i1 (by simp) o q, h2.at_ fun o q => k i2 (by simp) o q, h3.at_ fun o q => k i3 (by simp) o q⟩
  item := by
    intro X hP hw hK hc i pins s σ H E I hf st hg
    subst hP hw hK
    obtain ⟨hz, hTI, ⟨x0, y0, u0, hTO⟩, h1, h2, h3⟩ := st
    obtain ⟨xs, ys, zs, x, y, v, hqx, hqy, hqz, hx, hy, hv⟩ := hg
    obtain ⟨its, rv, p, la⟩ := seB_of I hqx
    obtain ⟨its2, rv2, p2, lb⟩ := seB_of I hqy
    obtain ⟨its3, rv3, p3, lc⟩ := seB_of I hqz
    obtain ⟨u, hu, ru⟩ := rv.get hx
    obtain ⟨u2, hu2, ru2⟩ := rv2.get hy
    obtain ⟨u3, hu3, ru3⟩ := rv3.get hv
    have S := D.sep
    have hh : X.A.in1.handled = none := I.ok.hd hc
    have lt1 : i < its.toArray.size := by simpa using (List.getElem?_eq_some_iff.mp hu).1
    have lt2 : i < its2.toArray.size := by simpa using (List.getElem?_eq_some_iff.mp hu2).1
    have lt3 : i < its3.toArray.size := by simpa using (List.getElem?_eq_some_iff.mp hu3).1
    have na : a ≠ i1 := fun q => D.a (by rw [q]; simp)
    have nb : b ≠ i2 := fun q => D.b (by rw [q]; simp)
    have nc : c ≠ i3 := fun q => D.c (by rw [q]; simp)
    have hzl : z < s.heap.objs.size := Heap.lt_size hz
    refine wpAny_pyNext_zipD3_item S (drawsB hh k1 i1 a na its.toArray) (drawsB hh k2 i2 b nb its2.toArray) (drawsB hh k3 i3 c nc its3.toArray) hz hTI hTO ⟨h1, p⟩ ⟨h2, p2⟩ ⟨h3, p3⟩ lt1 lt2 lt3 fun x1 x2 x3 h' tk e1 e2 e3 z' TO' s1 s2 s3 hT hsz hk => ?_
    have f1 : x1 = u := by
      have e1 : its[i]? = some x1 := by simpa using e1
      rw [hu] at e1
      exact (Option.some.inj e1).symm
    have f2 : x2 = u2 := by
      have e2 : its2[i]? = some x2 := by simpa using e2
      rw [hu2] at e2
      exact (Option.some.inj e2).symm
    have f3 : x3 = u3 := by
      have e3 : its3[i]? = some x3 := by simpa using e3
      rw [hu3] at e3
      exact (Option.some.inj e3).symm
    subst f1 f2 f3
    refine ⟨_, rfl, wpAny_letOwnedTupleGo_zip (s := { s with heap := h', toks := tk }) z' fun h'' z'' sb => ?_⟩
    have hT2 : h''.get? s.heap.objs.size = some { cls := .type "tuple", data := .seq #[x1, x2, x3] } := (sb.2 _ (Nat.ne_of_gt hzl)).trans hT
    have new : ObjOk X.prog X.w (upd H s.heap.objs.size (.tup [x, y, v])) h'' s.heap.objs.size (.tup [x, y, v]) :=
      ⟨by show 3 ≤ sizeLine; decide, [x1, x2, x3], .cons ru (.cons ru2 (.cons ru3 .nil)), ⟨_, hT2, rfl, _, rfl⟩⟩
    have I1 : Inv X pins σ (upd H s.heap.objs.size (.tup [x, y, v])) { s with heap := h'', toks := tk } :=
      I.turnedNew (t' := tk) (ch := [z, TI, TO, i1, i2, i3]) (fun d o hb q => (sb.2 d (fun q' => hb (by simp [q']))).trans (hk d o (fun q' => hb (by simp [q'])) (fun q' => hb (by simp [q'])) (fun q' => hb (by simp [q'])) (fun q' => hb (by simp [q'])) (fun q' => hb (by simp [q'])) q)) hf (Nat.le_refl _) new
    have nd := D.nd
    simp only [List.nodup_cons, List.mem_cons, List.not_mem_nil, or_false, not_or] at nd
    refine ⟨.ref s.heap.objs.size, _, I1, rfl, ⟨_, x, y, v, rfl, I.hok.fresh (Nat.le_refl _), rfl, fun l hl => by rw [sqB_inj I hqx hl]; exact hx, fun l hl => by rw [sqB_inj I hqy hl]; exact hy, fun l hl => by rw [sqB_inj I hqz hl]; exact hv⟩, ⟨z'', ?_, ⟨x1, x2, x3, ?_⟩, ?_, ?_, ?_⟩, fun d hd => ?_⟩
    · exact (sb.2 _ S.TIz).trans (hk _ _ S.TIz S.TITO S.TIi1 S.TIi2 S.TIi3 hTI)
    · exact (sb.2 _ S.TOz).trans TO'
    · exact s1.1.at_ fun o q => (sb.2 _ (S.zi1.symm)).trans q
    · exact s2.1.at_ fun o q => (sb.2 _ (S.zi2.symm)).trans q
    · exact s3.1.at_ fun o q => (sb.2 _ (S.zi3.symm)).trans q
    · have hlt : d < s.heap.objs.size := by
        have e' : d = z ∨ d = TI ∨ d = TO ∨ d = i1 ∨ d = i2 ∨ d = i3 := by simpa using hd
        rcases e' with q | q | q | q | q | q
        · rw [q]; exact hzl
        · rw [q]; exact Heap.lt_size hTI
        · rw [q]; exact Heap.lt_size hTO
        · rw [q]; obtain ⟨_, e, _⟩ := h1.ob; exact Heap.lt_size e
        · rw [q]; obtain ⟨_, e, _⟩ := h2.ob; exact Heap.lt_size e
        · rw [q]; obtain ⟨_, e, _⟩ := h3.ob; exact Heap.lt_size e
      rw [upd_ne (Nat.ne_of_lt hlt)]
      exact (hf d hd).1
  done := by
    intro X hP hw hK hc i pins s σ H E I hf st hg
    subst hP hw hK
    obtain ⟨hz, hTI, ⟨x0, y0, u0, hTO⟩, h1, h2, h3⟩ := st
    obtain ⟨xs, ys, zs, hqx, hqy, hqz, e1, e2, e3⟩ := hg
    obtain ⟨its, rv, p, la⟩ := seB_of I hqx
    obtain ⟨its2, rv2, p2, lb⟩ := seB_of I hqy
    obtain ⟨its3, rv3, p3, lc⟩ := seB_of I hqz
    have S := D.sep
    have hh : X.A.in1.handled = none := I.ok.hd hc
    have l1 : i = its.toArray.size := by have := rv.length; simp; omega
    have l2 : i = its2.toArray.size := by have := rv2.length; simp; omega
    have l3 : i = its3.toArray.size := by have := rv3.length; simp; omega
    have na : a ≠ i1 := fun q => D.a (by rw [q]; simp)
    have nb : b ≠ i2 := fun q => D.b (by rw [q]; simp)
    have nc : c ≠ i3 := fun q => D.c (by rw [q]; simp)
    exact wpAny_pyNext_zipD3_end S (drawsB hh k1 i1 a na its.toArray) (drawsB hh k2 i2 b nb its2.toArray) (drawsB hh k3 i3 c nc its3.toArray) hz hTI hTO ⟨h1, p⟩ ⟨h2, p2⟩ ⟨h3, p3⟩ (Nat.le_of_eq l1) (Nat.le_of_eq l2) (Nat.le_of_eq l3) (.inl l1) fun h' tk hk =>
      ⟨rfl, I.turnedL (t' := tk) (ch := [z, TI, TO, i1, i2, i3]) (fun d o hb q => hk d o (fun q' => hb (by simp [q'])) (fun q' => hb (by simp [q'])) (fun q' => hb (by simp [q'])) (fun q' => hb (by simp [q'])) (fun q' => hb (by simp [q'])) q) hf⟩
  self := fun A i s Q E st h => wpAny_pyIter_zip st.1 h
def iZip3 (K : PySem.W.Frag) (ta : TA) : TI := fun σ H R => ta σ H fun vs H1 => ∃ (k1 k2 k3 : Bool) (a b c : Addr) (xs ys zs : List V), vs = [.ref a, .ref b, .ref c] ∧ SqB K k1 H1 a xs ∧ SqB K k2 H1 b ys ∧ SqB K k3 H1 c zs ∧ R (ItZ3 K k1 k2 k3 a b c) H1
theorem z3_apart (I l1 l2 l3 : Nat) (h1 : l1 < I) (h2 : l2 < I) (h3 : l3 < I) : Z3Apart (I + 5) (I + 3) (I + 4) I (I + 1) (I + 2) l1 l2 l3 := by
  constructor <;> (first | simp | skip) <;> (try refine ⟨?_, ?_⟩) <;> grind
theorem pi_zip3 {X : Cx} {e e2 e3 : Expr} {ta : TA} {p pos tpos : Pos} {elts : List Expr} {kk : Nat} (hg : Gl X "zip") (hm : X.mg "zip" = none) (ha : PA X [e, e2, e3] ta)
    (hs : starEach [e, e2, e3] X.env = (false, eval e X.env) :: starEach [e2, e3] X.env := by rfl) (hpl : (backTo pos (starEach [e2, e3] X.env)).any (·.1) = false := by rfl) :
    PI X (.Tuple elts kk tpos) (.Call (.Name "zip" p) [e, e2, e3] [] pos) (iZip3 X.K ta) := by
  refine ⟨fun pins s σ H R I h => ?_⟩
  refine Call_ (ld_blt I hg hm PyProof.Rows.boot_zip (PyProof.Rows.callWith_type1 (thn (ha.run pos pins s σ H _ I h) fun us s1 ⟨vs, H1, I1, r1, q1⟩ => ?_) hs hpl))
  obtain ⟨k1, k2, k3, a, b, c, xs, ys, zs, ex, hqx, hqy, hqz, q⟩ := q1
  subst ex
  cases r1 with
  | cons r rr =>
    cases rr with
    | cons r' rr =>
      cases rr with
      | cons r'' rr =>
        cases rr
        cases r
        cases r'
        cases r''
        have fresh6 : ∀ d, d ∈ [s1.heap.objs.size + 5, s1.heap.objs.size + 3, s1.heap.objs.size + 4, s1.heap.objs.size, s1.heap.objs.size + 1, s1.heap.objs.size + 2] → FpOk X pins H1 d := fun d hd => by
          have hle : s1.heap.objs.size ≤ d := by
            simp only [List.mem_cons, List.not_mem_nil, or_false] at hd
            rcases hd with z | z | z | z | z | z <;> rw [z] <;> omega
          exact I1.fpOk hle (I1.hok.fresh hle)
        obtain ⟨its, rv, p1, la⟩ := seB_of I1 hqx
        obtain ⟨its2, rv2, p2, lb⟩ := seB_of I1 hqy
        obtain ⟨its3, rv3, p3, lc⟩ := seB_of I1 hqz
        refine zip_begins3 (beginsB k1 a its.toArray) (beginsB k2 b its2.toArray) (beginsB k3 c its3.toArray) p1 p2 p3 fun h' hz hTI hTO h1 h2 h3 hsz hk => wpAny_pyIter_zip hz ?_
        have I2 : Inv X pins σ H1 { s1 with heap := h' } := I1.kept (t' := s1.toks) hk
        exact ⟨s1.heap.objs.size + 5, [s1.heap.objs.size + 5, s1.heap.objs.size + 3, s1.heap.objs.size + 4, s1.heap.objs.size, s1.heap.objs.size + 1, s1.heap.objs.size + 2], _, _, H1, rfl, I2, turn_z3 (z3_apart s1.heap.objs.size a b c la lb lc), ⟨hz, hTI, ⟨_, _, _, hTO⟩, itB_new h1, itB_new h2, itB_new h3⟩, fresh6, q⟩
section
variable {σ : L2.St} {H : Hp} {K : PySem.W.Frag}
theorem r_iZip3 {ta : TA} {R : It → Hp → Prop} (h : ta σ H fun vs H1 => ∃ (k1 k2 k3 : Bool) (a b c : Addr) (xs ys zs : List V), vs = [.ref a, .ref b, .ref c] ∧ SqB K k1 H1 a xs ∧ SqB K k2 H1 b ys ∧ SqB K k3 H1 c zs ∧ R (ItZ3 K k1 k2 k3 a b c) H1) : iZip3 K ta σ H R := h
/-- a comprehension over three of one length -/
theorem r_lcZ3 {k1 k2 k3 : Bool} {a b c : Addr} {xs ys zs : List V} {g : TG} {tt : TT} {te : TE} {vs : List Nat} {D : Addr} {Qd : Hp → Prop} (hl : xs.length = ys.length) (hl2 : xs.length = zs.length) (Pv : Nat → Hp → Prop) (h0 : Pv 0 (upd H D (.lst []))) (hq : ∀ i H, Pv i H → SqB K k1 H a xs ∧ SqB K k2 H b ys ∧ SqB K k3 H c zs)
    (hs : ∀ (i : Nat) (x y z : V) (T : Addr) (H : Hp), xs[i]? = some x → ys[i]? = some y → zs[i]? = some z → Pv i H → H T = none → g (.ref T) (wipe σ vs) (upd H T (.tup [x, y, z])) fun σ2 H2 => wipe σ2 vs = wipe σ vs ∧ tt σ2 H2 fun b H3 =>
      if b = true then te σ2 H3 fun y H4 => ∃ acc, H4 D = some (.lst acc) ∧ acc.length < sizeLine ∧ Pv (i + 1) (upd H4 D (.lst (acc ++ [y]))) else Pv (i + 1) H3) (hd : ∀ H, Pv xs.length H → Qd H) :
    ∃ W : Nat → Nat → Hp → Prop, (∃ m, W 0 m (upd H D (.lst []))) ∧ ∀ i m H, W i m H →
      ((ItZ3 K k1 k2 k3 a b c).stop i H ∧ Qd H) ∨ ((ItZ3 K k1 k2 k3 a b c).go i H ∧ ∃ Nx : Hp → Prop, (∀ H', Nx H' → ∃ m', m' < m ∧ W (i + 1) m' H') ∧ ∀ x H', (ItZ3 K k1 k2 k3 a b c).yld i H x H' → g x (wipe σ vs) H' fun σ2 H2 => wipe σ2 vs = wipe σ vs ∧ tt σ2 H2 fun b H3 =>
        if b = true then te σ2 H3 fun y H4 => ∃ acc, H4 D = some (.lst acc) ∧ acc.length < sizeLine ∧ Nx (upd H4 D (.lst (acc ++ [y]))) else Nx H3) := by
  refine ⟨fun i m H => m = xs.length - i ∧ i ≤ xs.length ∧ Pv i H, ⟨xs.length, rfl, Nat.zero_le _, h0⟩, ?_⟩
  rintro i m H ⟨rfl, hi, p⟩
  obtain ⟨qx, qy, qz⟩ := hq i H p
  by_cases hlt : i < xs.length
  · have hx : xs[i]? = some xs[i] := List.getElem?_eq_getElem hlt
    have hlt2 : i < ys.length := by omega
    have hy : ys[i]? = some ys[i] := List.getElem?_eq_getElem hlt2
    have hlt3 : i < zs.length := by omega
    have hz : zs[i]? = some zs[i] := List.getElem?_eq_getElem hlt3
    refine .inr ⟨⟨xs, ys, zs, _, _, _, qx, qy, qz, hx, hy, hz⟩, Pv (i + 1), fun H' p' => ⟨xs.length - (i + 1), by omega, rfl, hlt, p'⟩, fun v H' y => ?_⟩
    obtain ⟨T, x', y', z', rfl, hT, rfl, f1, f2, f3⟩ := y
    exact hs i x' y' z' T _ (f1 xs qx) (f2 ys qy) (f3 zs qz) p hT
  · have e : i = xs.length := by omega
    subst e
    exact .inl ⟨⟨xs, ys, zs, qx, qy, qz, rfl, hl.symm, hl2.symm⟩, hd H p⟩
end
end Yk

set_option maxHeartbeats 1000000
/-! zip of two (lists or tuples), a list, a tuple walked to the end while an exception is handled. -/
namespace Yk
open PySem PySem.Spec PyProof.Rows L2 L2H HotX
section
variable {prog : Program} {w : World} {A : Around} {E : Value → Shared → Prop} {s : Shared}
theorem hot_keep {x1 : Addr} {h h' : Heap} (hot : HotAt A x1 h) (k : ∀ o, h.get? x1 = some o → h'.get? x1 = some o) : HotAt A x1 h' := by
  obtain ⟨hh, o, vs, h1, d1, c1⟩ := hot
  exact ⟨hh, o, vs, k _ h1, d1, c1⟩
/-- a StopIteration is made and raised -/
theorem stop_hot {α : Type} {x1 : Addr} {Q : α → Shared → Prop} (hot : HotAt A x1 s.heap)
    (hE : ∀ h' e, (∀ b o, s.heap.get? b = some o → h'.get? b = some o) → (∃ o, h'.get? e = some o ∧ o.cls = .type "StopIteration") → E (.ref e) { s with heap := h' }) :
    wpAny (model prog w) A (newExc (.type "StopIteration") [] >>= fun e => (raiseNew e : Sem α)) Q E s := by
  refine wpAny_bind ?_
  simp only [newExc, newTuple]
  refine wpAny_bind (wpAny_newObj_type ?_ (by size_fits))
  refine wpAny_bind (m := firstArgMember _ _) (wpAny_of_eq (a := Value.none) (by first | rfl | (simp only [firstArgMember]; rfl)) (wpAny_newObj_type ?_ (by size_fits)))
  have up : ∀ {b : Addr} {o u v : Obj}, s.heap.get? b = some o → ((s.heap.push u).push v).get? b = some o := fun e => Heap.get?_push_of_some _ (Heap.get?_push_of_some _ e)
  obtain ⟨hh, o1, vs1, h1, d1, c1⟩ := hot
  refine raiseNew_hot ⟨hh, o1, vs1, up h1, d1, c1⟩ (Nat.ne_of_lt (Heap.lt_size (Heap.get?_push_of_some _ h1))) (Heap.get?_push_size _ rfl) rfl (by first | (simp; done) | (simp; omega)) ?_
  refine hE _ _ (fun b ob e => ?_) ⟨_, Heap.get?_update_self _ (Heap.get?_push_size _ rfl) rfl, rfl⟩
  rw [Heap.get?_update_other _ _ (Nat.ne_of_gt (Heap.lt_size (Heap.get?_push_of_some _ e)))]
  exact up e
theorem endTup_hot {it l x1 : Addr} {i : Nat} {items : Array Value} {Q : Fin → Shared → Prop} (hot : HotAt A x1 s.heap) (hne : x1 ≠ it) (hit : s.heap.IsTupleIter it l i) (hl : s.heap.IsTuple l items) (hx : items[i]? = none)
    (hE : ∀ h' e, Heap.ExtBut it s.heap h' → (∃ o, h'.get? e = some o ∧ o.cls = .type "StopIteration") → E (.ref e) { s with heap := h' }) : wpAny (model prog w) A (Builtin.«tuple_iterator.__next__» ⟨[.ref it], []⟩) Q E s := by
  obtain ⟨o, ho, hc, hd⟩ := id hit
  obtain ⟨ol, hol, _, nl, hdl⟩ := hl
  show wpAny _ _ (field (.ref it) 0 >>= _) _ _ s
  refine wpAny_bind (wpAny_field ho hd (x := .ref l) rfl ?_)
  show wpAny _ _ (ite _ _ _) _ _ s
  rw [if_neg (show ¬ ((Value.ref l == Value.none) = true) from Bool.false_ne_true)]
  show wpAny _ _ (field (.ref it) 1 >>= _) _ _ s
  refine wpAny_bind (wpAny_field ho hd (x := .int i 0) rfl ?_)
  show wpAny _ _ (seqItems? (.ref l) >>= _) _ _ s
  refine wpAny_bind (wpAny_seqItems hol hdl ?_)
  simp only [Int.toNat_natCast, hx]
  refine wpAny_bind (wpAny_rule (wpAny_bind (wpAny_setField ho hd (by simp) (stop_hot (hot_keep hot fun o1 e1 => ?_) fun h' e k c => hE h' e (fun b ob hb q => k b ob (Heap.SameBut.extBut (Heap.SameBut.update ..) b ob hb q)) c))))
  rw [Heap.get?_update_other _ _ hne.symm]
  exact e1
theorem nextTup_hot {it l x1 : Addr} {i : Nat} {items : Array Value} {Q : Value → Shared → Prop} (hot : HotAt A x1 s.heap) (hne : x1 ≠ it) (hit : s.heap.IsTupleIter it l i) (hl : s.heap.IsTuple l items) (hx : items[i]? = none)
    (hE : ∀ h' e, Heap.ExtBut it s.heap h' → (∃ o, h'.get? e = some o ∧ o.cls = .type "StopIteration") → E (.ref e) { s with heap := h' }) : wpAny (model prog w) A (Builtin.SmallTypes.nextOf (.ref it)) Q E s := by
  unfold Builtin.SmallTypes.nextOf
  exact wpAny_bind (wpAny_callSpecial?_slot (name := Str.ofString "__next__") hit.typeIs F.slot_tuple_iterator_next (wpAny_call_entry F.slot_tuple_iterator_next hit.typeIs F.entry_tuple_iterator_next (endTup_hot (A := A.in1) hot hne hit hl hx hE) (F.args_tuple_iterator_next_1 _)))
theorem pyNextTup_hot {it l x1 : Addr} {i : Nat} {items : Array Value} {Q : Option Value → Shared → Prop} (hot : HotAt A x1 s.heap) (hne : x1 ≠ it) (hit : s.heap.IsTupleIter it l i) (hl : s.heap.IsTuple l items) (hx : items[i]? = none)
    (hQ : ∀ h', Heap.ExtBut it s.heap h' → Q none { s with heap := h' }) : wpAny (model prog w) A (pyNext (.ref it)) Q E s := by
  unfold pyNext
  refine wpAny_bind (wpAny_attempt (wpAny_callSpecial?_slot (name := Str.ofString "__next__") hit.typeIs F.slot_tuple_iterator_next (wpAny_call_entry F.slot_tuple_iterator_next hit.typeIs F.entry_tuple_iterator_next (endTup_hot (A := A.in1) hot hne hit hl hx fun h' e k c => ?_) (F.args_tuple_iterator_next_1 _))))
  obtain ⟨o, ho, hc⟩ := c
  exact wpAny_bind (wpAny_isInstance (T := "StopIteration") (b := true) ⟨o, ho, hc⟩ isSubtype_stop (wpAny_pure (hQ _ k)))
theorem endLst_hot {it l x1 : Addr} {i : Nat} {items : Array Value} {Q : Fin → Shared → Prop} (hot : HotAt A x1 s.heap) (hne : x1 ≠ it) (hit : s.heap.IsListIter it l i) (hl : s.heap.IsList l items) (hx : items[i]? = none)
    (hE : ∀ h' e, Heap.ExtBut it s.heap h' → (∃ o, h'.get? e = some o ∧ o.cls = .type "StopIteration") → E (.ref e) { s with heap := h' }) : wpAny (model prog w) A (Builtin.«list_iterator.__next__» ⟨[.ref it], []⟩) Q E s := by
  obtain ⟨o, ho, hc, hd⟩ := id hit
  obtain ⟨ol, hol, _, nl, hdl⟩ := hl
  show wpAny _ _ (field (.ref it) 0 >>= _) _ _ s
  refine wpAny_bind (wpAny_field ho hd (x := .ref l) rfl ?_)
  show wpAny _ _ (ite _ _ _) _ _ s
  rw [if_neg (show ¬ ((Value.ref l == Value.none) = true) from Bool.false_ne_true)]
  show wpAny _ _ (field (.ref it) 1 >>= _) _ _ s
  refine wpAny_bind (wpAny_field ho hd (x := .int i 0) rfl ?_)
  show wpAny _ _ (seqItems? (.ref l) >>= _) _ _ s
  refine wpAny_bind (wpAny_seqItems hol hdl ?_)
  simp only [Int.toNat_natCast, hx]
  refine wpAny_bind (wpAny_rule (wpAny_bind (wpAny_setField ho hd (by simp) (stop_hot (hot_keep hot fun o1 e1 => ?_) fun h' e k c => hE h' e (fun b ob hb q => k b ob (Heap.SameBut.extBut (Heap.SameBut.update ..) b ob hb q)) c))))
  rw [Heap.get?_update_other _ _ hne.symm]
  exact e1
theorem nextLst_hot {it l x1 : Addr} {i : Nat} {items : Array Value} {Q : Value → Shared → Prop} (hot : HotAt A x1 s.heap) (hne : x1 ≠ it) (hit : s.heap.IsListIter it l i) (hl : s.heap.IsList l items) (hx : items[i]? = none)
    (hE : ∀ h' e, Heap.ExtBut it s.heap h' → (∃ o, h'.get? e = some o ∧ o.cls = .type "StopIteration") → E (.ref e) { s with heap := h' }) : wpAny (model prog w) A (Builtin.SmallTypes.nextOf (.ref it)) Q E s := by
  unfold Builtin.SmallTypes.nextOf
  exact wpAny_bind (wpAny_callSpecial?_slot (name := Str.ofString "__next__") hit.typeIs slot_listiter_next (wpAny_call_entry slot_listiter_next hit.typeIs entry_listiter_next (endLst_hot (A := A.in1) hot hne hit hl hx hE) (args_listiter_next _)))
theorem pyNextLst_hot {it l x1 : Addr} {i : Nat} {items : Array Value} {Q : Option Value → Shared → Prop} (hot : HotAt A x1 s.heap) (hne : x1 ≠ it) (hit : s.heap.IsListIter it l i) (hl : s.heap.IsList l items) (hx : items[i]? = none)
    (hQ : ∀ h', Heap.ExtBut it s.heap h' → Q none { s with heap := h' }) : wpAny (model prog w) A (pyNext (.ref it)) Q E s := by
  unfold pyNext
  refine wpAny_bind (wpAny_attempt (wpAny_callSpecial?_slot (name := Str.ofString "__next__") hit.typeIs slot_listiter_next (wpAny_call_entry slot_listiter_next hit.typeIs entry_listiter_next (endLst_hot (A := A.in1) hot hne hit hl hx fun h' e k c => ?_) (args_listiter_next _))))
  obtain ⟨o, ho, hc⟩ := c
  exact wpAny_bind (wpAny_isInstance (T := "StopIteration") (b := true) ⟨o, ho, hc⟩ isSubtype_stop (wpAny_pure (hQ _ k)))
theorem unpackTup_hot {t x1 : Addr} {items : Array Value} {Q : List Value → Shared → Prop} (hot : HotAt A x1 s.heap) (ht : s.heap.IsTuple t items)
    (hQ : ∀ h', Heap.ExtBut s.heap.objs.size s.heap h' → Q items.toList { s with heap := h' }) : wpAny (model prog w) A (unpackItems (.ref t) items.size none) Q E s := by
  have hlt : t ≠ s.heap.objs.size := by obtain ⟨o, ho, _⟩ := ht; exact Nat.ne_of_lt (Heap.lt_size ho)
  have hx1 : x1 ≠ s.heap.objs.size := by obtain ⟨_, o, _, ho, _⟩ := hot; exact Nat.ne_of_lt (Heap.lt_size ho)
  unfold unpackItems notIterableAtAll
  refine wpAny_bind (wpAny_bind (wpAny_specialOf ht.typeIs F.slot_tuple_iter.lookup (wpAny_pure ?_)))
  simp only [Bool.false_eq_true, if_false]
  refine wpAny_bind (wpAny_holding (wpAny_pyIter_tuple ht (wpAny_bind (wpAny_holding (wpAny_draw_tuple hlt items.size 0 _ _ ⟨_, Heap.get?_push_size _ rfl, rfl, rfl⟩ (ht.push _) (by omega) fun h₁ hit₁ hs₁ => ?_)))))
  rw [show List.take items.size (List.drop 0 items.toList) = items.toList by rw [List.drop_zero]; exact List.take_of_length_le (by simp), if_neg (by simp)]
  refine wpAny_bind (wpAny_holding (pyNextTup_hot (hot_keep hot fun o e => hs₁.extBut _ _ hx1 (Heap.get?_push_of_some _ e)) hx1 hit₁ ((ht.push _).extBut hs₁.extBut hlt) (by simp) fun h₂ he₂ => ?_))
  simp only [Option.isSome_none, Bool.false_eq_true, if_false]
  exact wpAny_pure (hQ h₂ fun b o hb e => he₂ b o hb (hs₁.extBut b o hb (Heap.get?_push_of_some _ e)))
theorem assignTup_hot {env : Env} {elts : List Expr} {k} {pos : Pos} {t x1 : Addr} {items : Array Value} {Q : Unit → Shared → Prop} (hot : HotAt A x1 s.heap) (ht : s.heap.IsTuple t items)
    (hn : (assignEach elts env).length = items.size) (hstar : (assignEach elts env).findIdx? (·.1) = none)
    (h : ∀ h', Heap.ExtBut s.heap.objs.size s.heap h' → wpAny (model prog w) A (assignInOrder ((assignEach elts env).map (·.2)) items.toList) Q E { s with heap := h' }) :
    wpAny (model prog w) A (assign (.Tuple elts k pos) env (.ref t)) Q E s := by
  rw [arm_assign_Tuple]
  refine wpAny_bind (wpAny_standAt ?_)
  unfold unpack
  rw [hn, hstar]
  exact wpAny_bind (wpAny_holding (unpackTup_hot hot ht h))
end
theorem walksH {prog : Program} {w : World} {A : Around} {x1 : Addr} (I l : Addr) (hne : l ≠ I) (hx : x1 ≠ I) (items : Array Value) :
    Walks prog w A I [I, l, x1] [I] items.size (fun i v => items[i]? = some v) (fun i h => h.IsListIter I l i ∧ h.IsList l items ∧ HotAt A x1 h) where
  sub := fun b hb => by simp at hb; simp [hb]
  frame := fun _ _ _ st hk => ⟨st.1.at fun o e => hk I (by simp) o e, st.2.1.at fun o e => hk l (by simp) o e, hot_keep st.2.2 fun o e => hk x1 (by simp) o e⟩
  item := fun i s Q E hi st hQ => wpAny_pyNext_list_item st.1 st.2.1 (x := items[i]) (by simp [hi]) fun h' hit' hs' =>
    hQ _ h' s.toks (by simp [hi]) ⟨hit', st.2.1.extBut hs'.extBut hne, hot_keep st.2.2 fun o e => hs'.extBut _ _ hx e⟩ fun b o hb e => hs'.extBut b o (fun h => hb (by simp [h])) e
  done := fun s Q E st hQ => pyNextLst_hot st.2.2 hx st.1 st.2.1 (by simp) fun h' he' => hQ h' s.toks fun b o hb e => he' b o (fun h => hb (by simp [h])) e
  self := fun i s Q E st hQ => wpAny_pyIter_listiter st.1 hQ
section
variable {X : Cx}
theorem pg_tupH {es : List Expr} {k : Nat} {t : TGs} {n : Nat} {pos : Pos} (hc : HotC X) (h : PGs X es t) (hn : (assignEach es X.env).length = n := by rfl) (hst : (assignEach es X.env).findIdx? (·.1) = none := by rfl) : PG X (.Tuple es k pos) (gTup X.K n t) := by
  refine ⟨fun pins s σ H v u Q I r hw => ?_⟩
  obtain ⟨a, xs, e1, hq, hl, hw⟩ := hw
  subst e1
  cases r
  obtain ⟨its, rv, ht, hz⟩ := I.tuple hq
  obtain ⟨x1, hot⟩ := hc.at I
  exact assignTup_hot hot ht (by simp [hn, ← hl, rv.length]) hst fun h' hx => h.run pins _ σ H xs _ Q (I.kept (t' := s.toks) fun b o e => hx b o (Nat.ne_of_lt (Heap.lt_size e)) e) (by simpa using rv) hw
theorem cr_allH (hc : HotC X) : CallR X (.builtin "all") (rAll X.K) := by
  intro pins s σ H vs us Q I r h
  obtain ⟨a, bs, rfl, hs, q⟩ := h
  obtain ⟨its, rv, hl, _⟩ := I.list hs
  rw [Vals.ref1 r]
  have hb := rv.bls
  obtain ⟨x1, hot⟩ := hc.at I
  have hx1 : x1 < s.heap.objs.size := by obtain ⟨_, o, _, ho, _⟩ := hot; exact Heap.lt_size ho
  refine call_all_walk (iter_any hl.isList fun s₂ e2 st hne => ?_)
  subst e2
  have hot2 : HotAt X.A.in1 x1 (s.heap.push { cls := .type "list_iterator", data := .fields #[.ref a, .int 0 0] }) := hot_keep (A := X.A.in1) (h := s.heap) hot fun o e => Heap.get?_push_of_some _ e
  refine ⟨_, _, _, _, _, _, _, rfl, walksH (A := X.A.in1) _ a hne (Nat.ne_of_lt hx1) its.toArray, ⟨st.1, st.2, hot2⟩, truth_bools hb, fun h' tk hk => ?_⟩
  refine ⟨.bl _, H, I.kept fun b o eo => hk b o (fun hmem => ?_) (Heap.get?_push_of_some _ eo), ?_, q⟩
  · rcases List.mem_cons.mp hmem with e1 | hmem
    · exact absurd (e1 ▸ Heap.lt_size eo) (Nat.lt_irrefl _)
    · cases hmem
  · show Value.bool _ = Value.bool _
    rw [← L2.all_range, hb, List.size_toArray, List.length_map]
end
end Yk

set_option maxHeartbeats 1000000
namespace Yk
open PySem PySem.Spec PyProof.Rows L2 L2H HotX
/-- what a list or a tuple draws there -/
theorem drawsH {prog : Program} {w : World} {A : Around} {x1 : Addr} (k : Bool) (it l : Addr) (hne : l ≠ it) (hx : x1 ≠ it) (items : Array Value) :
    Draws prog w A it [it, l, x1] items.size (fun i v => items[i]? = some v) (fun i h => ItB k h it l i ∧ SeB k h l items ∧ HotAt A x1 h) where
  live := fun _ _ st => let ⟨o, ho, _⟩ := st.1.ob; ⟨o, ho⟩
  frame := fun i h h' st hk => ⟨st.1.at_ fun o e => hk it (by simp) o e, by
    have hs := st.2.1
    cases k with
    | true => exact Heap.IsList.at hs fun o e => hk l (by simp) o e
    | false => exact Heap.IsTuple.at hs fun o e => hk l (by simp) o e, hot_keep st.2.2 fun o e => hk x1 (by simp) o e⟩
  item := fun i s Q E hi st hQ => by
    obtain ⟨a, b, c⟩ := st
    cases k with
    | true => exact wpAny_nextOf_list_item a b (x := items[i]) (by simp [hi]) fun h' hit' hs' => hQ _ h' s.toks (by simp [hi]) ⟨hit', Heap.IsList.extBut b hs'.extBut hne, hot_keep c fun o e => hs'.extBut _ _ hx e⟩ hs'
    | false => exact wpAny_nextOf_tuple_item a b (x := items[i]) (by simp [hi]) fun h' hit' hs' => hQ _ h' s.toks (by simp [hi]) ⟨hit', Heap.IsTuple.extBut b hs'.extBut hne, hot_keep c fun o e => hs'.extBut _ _ hx e⟩ hs'
  done := fun s Q E st hE => by
    obtain ⟨a, b, c⟩ := st
    cases k with
    | true => exact nextLst_hot c hx a b (by simp) hE
    | false => exact nextTup_hot c hx a b (by simp) hE
/-- two as they stand at each turn, the items in new pairs -/
def ItZ2 (K : PySem.W.Frag) (k1 k2 : Bool) (a b : Addr) : It :=
  ⟨fun i H => ∃ (xs ys : List V) (x y : V), SqB K k1 H a xs ∧ SqB K k2 H b ys ∧ xs[i]? = some x ∧ ys[i]? = some y,
    fun i H v H' => ∃ T x y, v = .ref T ∧ H T = none ∧ H' = upd H T (.tup [x, y]) ∧ (∀ xs, SqB K k1 H a xs → xs[i]? = some x) ∧ ∀ ys, SqB K k2 H b ys → ys[i]? = some y,
    fun i H => ∃ xs ys : List V, SqB K k1 H a xs ∧ SqB K k2 H b ys ∧ xs.length = i ∧ ys.length = i⟩
structure Z2Apart (z TI TO i1 i2 a b : Addr) : Prop where
  nd : [z, TI, TO, i1, i2].Nodup
  a : a ∉ [z, TI, TO, i1, i2]
  b : b ∉ [z, TI, TO, i1, i2]
theorem Z2Apart.sep {z TI TO i1 i2 a b x1 : Addr} (D : Z2Apart z TI TO i1 i2 a b) (hx : x1 ∉ [z, TI, TO, i1, i2]) : ZipSep2 z TI TO i1 i2 [i1, a, x1] [i2, b, x1] := by
  have h := D.nd
  have ha := D.a
  have hb := D.b
  simp only [List.nodup_cons, List.mem_cons, List.not_mem_nil, or_false, not_or] at h ha hb hx
  constructor <;> (try simp only [List.mem_cons, List.not_mem_nil, or_false, not_or, true_or]) <;> grind
theorem turn_z2H {P : Program} {w : World} {K : PySem.W.Frag} {elts : List Expr} {kk : Nat} {tpos : Pos} {k1 k2 : Bool} {a b z TI TO i1 i2 : Addr} (D : Z2Apart z TI TO i1 i2 a b) :
    TurnH P w K (.Tuple elts kk tpos) (ItZ2 K k1 k2 a b) [z, TI, TO, i1, i2] z (fun i h => IsZip h z TI TO .none ∧ IsTupOf2 h TI (.ref i1) (.ref i2) ∧ (∃ x y, IsTupOf2 h TO x y) ∧ ItB k1 h i1 a i ∧ ItB k2 h i2 b i) where
  mem := by simp
  obj := fun i h st d hd => by
    obtain ⟨hz, hTI, ⟨x, y, hTO⟩, h1, h2⟩ := st
    have e' : d = z ∨ d = TI ∨ d = TO ∨ d = i1 ∨ d = i2 := by simpa using hd
    rcases e' with q | q | q | q | q
    · rw [q]; exact ⟨_, hz, fun v q => nomatch q⟩
    · rw [q]; exact ⟨_, hTI, fun v q => nomatch q⟩
    · rw [q]; exact ⟨_, hTO, fun v q => nomatch q⟩
    · rw [q]; exact h1.ob
    · rw [q]; exact h2.ob
  keep := fun i h h' st k => by
    obtain ⟨hz, hTI, ⟨x, y, hTO⟩, h1, h2⟩ := st
    exact ⟨k z (by simp) _ hz, k TI (by simp) _ hTI, ⟨x, y, k TO (by simp) _ hTO⟩, h1.at_ fun o q => k i1 (by simp) o q, h2.at_ fun o q => k i2 (by simp) o q⟩
  item := by
    intro X hP hw hK hc i pins s σ H E I hf st hg
    subst hP hw hK
    obtain ⟨hz, hTI, ⟨x0, y0, hTO⟩, h1, h2⟩ := st
    obtain ⟨xs, ys, x, y, hqx, hqy, hx, hy⟩ := hg
    obtain ⟨its, rv, p, la⟩ := seB_of I hqx
    obtain ⟨its2, rv2, p2, lb⟩ := seB_of I hqy
    obtain ⟨u, hu, ru⟩ := rv.get hx
    obtain ⟨u2, hu2, ru2⟩ := rv2.get hy
    obtain ⟨q, ⟨hh, vs1, d1, c1⟩, hq⟩ := hc
    have hx1 : q.1 ∉ [z, TI, TO, i1, i2] := fun m => (hf q.1 m).2.2.2.2.2 q (List.mem_append_left _ hq) rfl
    have hot : HotAt X.A.in1 q.1 s.heap := ⟨hh, q.2, vs1, (I.pin q (List.mem_append_left _ hq)).1, d1, c1⟩
    have S := D.sep hx1
    have lt1 : i < its.toArray.size := by simpa using (List.getElem?_eq_some_iff.mp hu).1
    have lt2 : i < its2.toArray.size := by simpa using (List.getElem?_eq_some_iff.mp hu2).1
    have na : a ≠ i1 := fun q => D.a (by rw [q]; simp)
    have nb : b ≠ i2 := fun q => D.b (by rw [q]; simp)
    have nx1 : q.1 ≠ i1 := fun z => hx1 (by rw [z]; simp)
    have nx2 : q.1 ≠ i2 := fun z => hx1 (by rw [z]; simp)
    have hzl : z < s.heap.objs.size := Heap.lt_size hz
    refine wpAny_pyNext_zipD2_item S (drawsH k1 i1 a na nx1 its.toArray) (drawsH k2 i2 b nb nx2 its2.toArray) hz hTI hTO ⟨h1, p, hot⟩ ⟨h2, p2, hot⟩ lt1 lt2 fun x1 x2 h' tk e1 e2 z' TO' s1 s2 hT hsz hk => ?_
    have f1 : x1 = u := by
      have e1 : its[i]? = some x1 := by simpa using e1
      rw [hu] at e1
      exact (Option.some.inj e1).symm
    have f2 : x2 = u2 := by
      have e2 : its2[i]? = some x2 := by simpa using e2
      rw [hu2] at e2
      exact (Option.some.inj e2).symm
    subst f1 f2
    refine ⟨_, rfl, wpAny_letOwnedTupleGo_zip (s := { s with heap := h', toks := tk }) z' fun h'' z'' sb => ?_⟩
    have hT2 : h''.get? s.heap.objs.size = some { cls := .type "tuple", data := .seq #[x1, x2] } := (sb.2 _ (Nat.ne_of_gt hzl)).trans hT
    have new : ObjOk X.prog X.w (upd H s.heap.objs.size (.tup [x, y])) h'' s.heap.objs.size (.tup [x, y]) :=
      ⟨by show 2 ≤ sizeLine; decide, [x1, x2], .cons ru (.cons ru2 .nil), ⟨_, hT2, rfl, _, rfl⟩⟩
    have I1 : Inv X pins σ (upd H s.heap.objs.size (.tup [x, y])) { s with heap := h'', toks := tk } :=
      I.turnedNew (t' := tk) (ch := [z, TI, TO, i1, i2]) (fun d o hb q => (sb.2 d (fun q' => hb (by simp [q']))).trans (hk d o (fun q' => hb (by simp [q'])) (fun q' => hb (by simp [q'])) (fun q' => hb (by simp [q'])) (fun q' => hb (by simp [q'])) q)) hf (Nat.le_refl _) new
    refine ⟨.ref s.heap.objs.size, _, I1, rfl, ⟨_, x, y, rfl, I.hok.fresh (Nat.le_refl _), rfl, fun l hl => by rw [sqB_inj I hqx hl]; exact hx, fun l hl => by rw [sqB_inj I hqy hl]; exact hy⟩, ⟨z'', ?_, ⟨x1, x2, ?_⟩, ?_, ?_⟩, fun d hd => ?_⟩
    · exact (sb.2 _ S.TIz).trans (hk _ _ S.TIz S.TITO S.TIi1 S.TIi2 hTI)
    · exact (sb.2 _ S.TOz).trans TO'
    · exact s1.1.at_ fun o q => (sb.2 _ (S.zi1.symm)).trans q
    · exact s2.1.at_ fun o q => (sb.2 _ (S.zi2.symm)).trans q
    · have hlt : d < s.heap.objs.size := by
        have e' : d = z ∨ d = TI ∨ d = TO ∨ d = i1 ∨ d = i2 := by simpa using hd
        rcases e' with q | q | q | q | q
        · rw [q]; exact hzl
        · rw [q]; exact Heap.lt_size hTI
        · rw [q]; exact Heap.lt_size hTO
        · rw [q]; obtain ⟨_, e, _⟩ := h1.ob; exact Heap.lt_size e
        · rw [q]; obtain ⟨_, e, _⟩ := h2.ob; exact Heap.lt_size e
      rw [upd_ne (Nat.ne_of_lt hlt)]
      exact (hf d hd).1
  done := by
    intro X hP hw hK hc i pins s σ H E I hf st hg
    subst hP hw hK
    obtain ⟨hz, hTI, ⟨x0, y0, hTO⟩, h1, h2⟩ := st
    obtain ⟨xs, ys, hqx, hqy, e1, e2⟩ := hg
    obtain ⟨its, rv, p, la⟩ := seB_of I hqx
    obtain ⟨its2, rv2, p2, lb⟩ := seB_of I hqy
    obtain ⟨q, ⟨hh, vs1, d1, c1⟩, hq⟩ := hc
    have hx1 : q.1 ∉ [z, TI, TO, i1, i2] := fun m => (hf q.1 m).2.2.2.2.2 q (List.mem_append_left _ hq) rfl
    have hot : HotAt X.A.in1 q.1 s.heap := ⟨hh, q.2, vs1, (I.pin q (List.mem_append_left _ hq)).1, d1, c1⟩
    have S := D.sep hx1
    have l1 : i = its.toArray.size := by have := rv.length; simp; omega
    have l2 : i = its2.toArray.size := by have := rv2.length; simp; omega
    have na : a ≠ i1 := fun q => D.a (by rw [q]; simp)
    have nb : b ≠ i2 := fun q => D.b (by rw [q]; simp)
    have nx1 : q.1 ≠ i1 := fun z => hx1 (by rw [z]; simp)
    have nx2 : q.1 ≠ i2 := fun z => hx1 (by rw [z]; simp)
    exact wpAny_pyNext_zipD2_end S (drawsH k1 i1 a na nx1 its.toArray) (drawsH k2 i2 b nb nx2 its2.toArray) hz hTI hTO ⟨h1, p, hot⟩ ⟨h2, p2, hot⟩ (Nat.le_of_eq l1) (Nat.le_of_eq l2) (.inl l1) fun h' tk hk =>
      ⟨rfl, I.turnedL (t' := tk) (ch := [z, TI, TO, i1, i2]) (fun d o hb q => hk d o (fun q' => hb (by simp [q'])) (fun q' => hb (by simp [q'])) (fun q' => hb (by simp [q'])) (fun q' => hb (by simp [q'])) q) hf⟩
  self := fun A i s Q E st h => wpAny_pyIter_zip st.1 h
def iZip2 (K : PySem.W.Frag) (ta : TA) : TI := fun σ H R => ta σ H fun vs H1 => ∃ (k1 k2 : Bool) (a b : Addr) (xs ys : List V), vs = [.ref a, .ref b] ∧ SqB K k1 H1 a xs ∧ SqB K k2 H1 b ys ∧ R (ItZ2 K k1 k2 a b) H1
theorem z2_apart (I l1 l2 : Nat) (h1 : l1 < I) (h2 : l2 < I) : Z2Apart (I + 4) (I + 2) (I + 3) I (I + 1) l1 l2 := by
  constructor <;> (first | simp | skip) <;> (try refine ⟨?_, ?_⟩) <;> grind
theorem pi_zip2H {X : Cx} {e e2 : Expr} {ta : TA} {p pos tpos : Pos} {elts : List Expr} {kk : Nat} (hg : Gl X "zip") (hm : X.mg "zip" = none) (ha : PA X [e, e2] ta)
    (hs : starEach [e, e2] X.env = (false, eval e X.env) :: starEach [e2] X.env := by rfl) (hpl : (backTo pos (starEach [e2] X.env)).any (·.1) = false := by rfl) :
    PIH X (.Tuple elts kk tpos) (.Call (.Name "zip" p) [e, e2] [] pos) (iZip2 X.K ta) := by
  refine ⟨fun pins s σ H R I h => ?_⟩
  refine Call_ (ld_blt I hg hm PyProof.Rows.boot_zip (PyProof.Rows.callWith_type1 (thn (ha.run pos pins s σ H _ I h) fun us s1 ⟨vs, H1, I1, r1, q1⟩ => ?_) hs hpl))
  obtain ⟨k1, k2, a, b, xs, ys, ex, hqx, hqy, q⟩ := q1
  subst ex
  cases r1 with
  | cons r rr =>
    cases rr with
    | cons r' rr =>
      cases rr
      cases r
      cases r'
      have fresh5 : ∀ d, d ∈ [s1.heap.objs.size + 4, s1.heap.objs.size + 2, s1.heap.objs.size + 3, s1.heap.objs.size, s1.heap.objs.size + 1] → FpOk X pins H1 d := fun d hd => by
        have hle : s1.heap.objs.size ≤ d := by
          simp only [List.mem_cons, List.not_mem_nil, or_false] at hd
          rcases hd with z | z | z | z | z <;> rw [z] <;> omega
        exact I1.fpOk hle (I1.hok.fresh hle)
      obtain ⟨its, rv, p1, la⟩ := seB_of I1 hqx
      obtain ⟨its2, rv2, p2, lb⟩ := seB_of I1 hqy
      refine zip_begins2 (beginsB k1 a its.toArray) (beginsB k2 b its2.toArray) p1 p2 fun h' hz hTI hTO h1 h2 hsz hk => wpAny_pyIter_zip hz ?_
      have I2 : Inv X pins σ H1 { s1 with heap := h' } := I1.kept (t' := s1.toks) hk
      exact ⟨s1.heap.objs.size + 4, [s1.heap.objs.size + 4, s1.heap.objs.size + 2, s1.heap.objs.size + 3, s1.heap.objs.size, s1.heap.objs.size + 1], _, _, H1, rfl, I2, turn_z2H (z2_apart s1.heap.objs.size a b la lb), ⟨hz, hTI, ⟨_, _, hTO⟩, itB_new h1, itB_new h2⟩, fresh5, q⟩
end Yk

set_option maxHeartbeats 1000000
/-! A comprehension while an exception is handled; defs that are called there. -/
namespace Yk
open PySem PySem.Spec PyProof.Rows L2 L2H HotX
/-- a block's context there: it bears the handled exception too -/
abbrev blkH (X : Cx) (s : Shared) (H : Hp) (scope : Scope) (cenv : Env) (fp : List Addr) : Cx := { X.blk s H scope cenv fp with pn := X.pn }
theorem inv_blkH {X : Cx} {pins : List (Addr × Obj)} {σ σ' : L2.St} {H : Hp} {s s' : Shared} {scope : Scope} {cenv : Env} {fp : List Addr} (I : Inv X pins σ H s) (J : Inv (X.blk s H scope cenv fp) [] σ' H s')
    (k : ∀ b o, s.heap.get? b = some o → s'.heap.get? b = some o) (hL : s.heap.objs.size ≤ cenv.locals) : Inv (blkH X s H scope cenv fp) [] σ' H s' := by
  refine ⟨⟨J.ok.mod, J.ok.kind, J.ok.glob, J.ok.blt, J.ok.above, J.ok.inj, J.ok.has, J.ok.cab, J.ok.hd, J.ok.frames, J.ok.stk, J.ok.exf, J.ok.bs, J.ok.bsz, J.ok.noex, J.ok.exfs, J.ok.funs, J.ok.frf⟩, J.os, J.bare, J.base, J.loc, J.cell, J.free, J.freeC, fun p hp => ?_, J.hok, J.len⟩
  have hp1 : p ∈ X.pn := by simpa using hp
  obtain ⟨a, b, c, d, e⟩ := I.pin p (List.mem_append_left _ hp1)
  refine ⟨k _ _ a, b, fun z => ?_, fun z => ?_, e⟩
  · have lt := Heap.lt_size a
    rw [z] at lt
    exact absurd (Nat.lt_of_lt_of_le lt hL) (Nat.lt_irrefl _)
  · exact (List.mem_cons.mp (I.stkSub p.1 z)).elim c d
section
variable {X : Cx}
theorem lcH_core {pins : List (Addr × Obj)} {s : Shared} {σ : L2.St} {H : Hp} {Q : VK} {elt tg iter : Expr} {ifs : List Expr} {scope : Scope} {own : List (Str × Nat)} {pos pos' : Pos} {wi : TI} {g : TG} {tt : TT} {te : TE} {use : Option (Value → Sem Unit)} {Qf : Value → Shared → Prop}
    (hc : HotC X) (hN : X.N.Nodup) (I : Inv X pins σ H s) (hi : PIH X tg iter wi) (ok : BlkOk X.N X.env.scope scope own)
    (hg : ∀ (s : Shared) (H : Hp) (C : Addr) (cl : List (Str × Addr)) (fp : List Addr), PG (blkH X s H scope (compEnvC scope cl C X.env) fp) tg g) (ht : ∀ (s : Shared) (H : Hp) (C : Addr) (cl : List (Str × Addr)) (fp : List Addr), PTs (blkH X s H scope (compEnvC scope cl C X.env) fp) ifs tt)
    (he : ∀ (s : Shared) (H : Hp) (C : Addr) (cl : List (Str × Addr)) (fp : List Addr), PE (blkH X s H scope (compEnvC scope cl C X.env) fp) elt te) (hs : ∀ x, foldedSetIterable iter X.env x = pure x) (h : tLc wi g tt te (own.map (·.2)) σ H Q)
    (hRR : ∀ D C s' m H', Inv X pins σ H' s' → Q (.ref D) H' → s'.heap.Ns C m → FpOk X pins H' C → compPost (model X.prog X.w) X.A X.xe use Qf (.ref D) C (.ok .next) s') :
    wpAny (model X.prog X.w) X.A (comprehension (.ListComp elt [⟨tg, iter, ifs, 0⟩] scope pos) scope X.env pos' (newList []) false (eval iter X.env) use) Qf X.xe s := by
  have hfree : ∀ y ∈ scope.names, y.2 = .free → ∃ c, X.env.cells.lookup y.1 = some c := fun y hy e => by
    rcases ok.free y hy e with k | k
    · exact I.ok.has _ (.inl k)
    · exact I.ok.has _ (.inr k)
  refine wpAny_comprehension_free (use := use) rfl hs (closure_ok hfree) ok.kind (fun y hy e => by rw [ok.uniq y hy, e]) (thn (hi.run pins s σ H _ I h) fun xv s1 hx => thn hx fun itv s2 h2 => ?_)
  obtain ⟨it, fp, tn, J, H2, e, I2, T, st2, f2, q⟩ := h2
  subst e
  refine wpAny_newObj_type (newEnv_comp ?_) (by show 0 ≤ sizeLine; decide)
  generalize hD : s2.heap.objs.size = D
  have hDn : H2 D = none := I2.hok.fresh (Nat.le_of_eq hD)
  obtain ⟨W, ⟨m0, w0⟩, turn⟩ := q D hDn
  generalize hs3 : ({ s2 with heap := s2.heap.push { cls := .type "list", data := .seq ([] : List Value).toArray } } : Shared) = s3
  have h3 : s3.heap = s2.heap.push { cls := .type "list", data := .seq ([] : List Value).toArray } := by rw [← hs3]
  have I3 : Inv X pins σ (upd H2 D (.lst [])) s3 := by
    rw [← hs3]
    refine I2.laid (t' := s2.toks) (fun b o e => Heap.get?_push_of_some _ e) (Nat.le_of_eq hD) ⟨Nat.zero_le _, [], 0, .nil, ?_⟩
    rw [← hD]
    exact Heap.get?_push_size _ rfl
  have f3 : ∀ b ∈ fp, FpOk X pins (upd H2 D (.lst [])) b ∧ b < s3.heap.objs.size := fun b hb => by
    have hlt : b < s2.heap.objs.size := by
      obtain ⟨o, e, _⟩ := T.obj _ _ st2 b hb
      exact Heap.lt_size e
    refine ⟨⟨?_, (f2 b hb).2⟩, by rw [h3, Heap.size_push]; exact Nat.lt_succ_of_lt hlt⟩
    rw [upd_ne (by rw [← hD]; exact Nat.ne_of_lt hlt)]
    exact (f2 b hb).1
  have st3 : tn 0 s3.heap := T.keep _ _ _ st2 fun b _ o e => by rw [h3]; exact Heap.get?_push_of_some _ e
  have pg := hg s3 (upd H2 D (.lst [])) s3.heap.objs.size (cellsFrom (s3.heap.objs.size + 1) scope.names (cloFrom X.env.cells scope.names [])) fp
  have pt := ht s3 (upd H2 D (.lst [])) s3.heap.objs.size (cellsFrom (s3.heap.objs.size + 1) scope.names (cloFrom X.env.cells scope.names [])) fp
  have pe := he s3 (upd H2 D (.lst [])) s3.heap.objs.size (cellsFrom (s3.heap.objs.size + 1) scope.names (cloFrom X.env.cells scope.names [])) fp
  have k34 : ∀ b o, s3.heap.get? b = some o → (pushCells (s3.heap.push { cls := .type "dict", data := .dict #[] }) scope.names).get? b = some o := fun b o e => pushCells_keeps _ _ _ _ (Heap.get?_push_of_some _ e)
  have I4 := inv_blkH I3 (block_start I3 ok hN f3) k34 (Nat.le_refl _)
  show codeAny _ _ (.compStart (.ListComp elt [⟨tg, iter, ifs, 0⟩] scope pos) 0 (.ref it) (.ref D) (compEnvC scope (cellsFrom (s3.heap.objs.size + 1) scope.names (cloFrom X.env.cells scope.names [])) s3.heap.objs.size X.env)) (compPost (model X.prog X.w) X.A X.xe use Qf (.ref D) s3.heap.objs.size) { s3 with heap := pushCells (s3.heap.push { cls := .type "dict", data := .dict #[] }) scope.names }
  have nfp : ∀ b ∈ fp, (upd H2 D (.lst [])) b = none := fun b hb => (f3 b hb).1.1
  generalize hce : compEnvC scope (cellsFrom (s3.heap.objs.size + 1) scope.names (cloFrom X.env.cells scope.names [])) s3.heap.objs.size X.env = ce at I4 pg pt pe ⊢
  have cL : ce.locals = s3.heap.objs.size := by subst hce; rfl
  generalize hH3 : upd H2 D (.lst []) = H3 at I3 I4 pg pt pe w0 nfp f3
  generalize hs4 : ({ s3 with heap := pushCells (s3.heap.push { cls := .type "dict", data := .dict #[] }) scope.names } : Shared) = s4 at I4 ⊢
  have st4 : tn 0 s4.heap := T.keep _ _ _ st3 fun b _ o e => by rw [← hs4]; exact k34 _ _ e
  have hcB : HotC (blkH X s3 H3 scope ce fp) := hc
  have stat : ∀ {σ' : L2.St} {H' : Hp} {s' : Shared}, Inv (blkH X s3 H3 scope ce fp) [] σ' H' s' → (∀ b ∈ fp, H' b = none) → ∀ b ∈ fp, FpOk (blkH X s3 H3 scope ce fp) [] H' b := fun {σ' H' s'} I' hn b hb =>
    ⟨hn b hb, (I'.ok.exf b hb).1, I'.ok.exfs b hb, .inl hb, fun x c e => (I'.ok.exf b hb).2 x c e, fun p hp => (f3 b hb).1.2.2.2.2.2 p (List.mem_append_left _ (by simpa using hp))⟩
  have loop : codeAny (model X.prog X.w) X.A (.compLoop (.ListComp elt [⟨tg, iter, ifs, 0⟩] scope pos) 0 (.ref it) (.ref D) ce) (compPost (model X.prog X.w) X.A X.xe use Qf (.ref D) s3.heap.objs.size) s4 := by
    refine compLoop_any (fun n s' => ∃ i H', Inv (blkH X s3 H3 scope ce fp) [] (wipe σ (own.map (·.2))) H' s' ∧ tn i s'.heap ∧ (∀ b ∈ fp, H' b = none) ∧ W i n H') ?_ m0 ⟨0, H3, I4, st4, nfp, w0⟩
    rintro n s5 ⟨i, H5, I5, st5, n5, w5⟩
    rcases turn i n H5 w5 with ⟨stop, qq⟩ | ⟨go, Nx, hNx, step⟩
    · refine thnF (T.done (blkH X s3 H3 scope ce fp) rfl rfl rfl hcB i [] s5 _ H5 (fun _ _ => False) I5 (stat I5 n5) st5 stop) fun r s6 ⟨hr, I6⟩ => ?_
      subst hr
      have I7 : Inv X pins σ H5 s6 := I3.call' (ch := fp) I6.os I6.base I6.hok I6.bare fun b hb => ⟨(f3 b hb).1.2.2.2.1, (f3 b hb).1.2.1, (f3 b hb).1.2.2.2.2.1, (f3 b hb).1.2.2.2.2.2⟩
      have nC : H5 s3.heap.objs.size = none := by
        have z : H5 ce.locals = none := I6.free
        rw [cL] at z
        exact z
      obtain ⟨m, hn, _⟩ := I6.loc
      have hn : s6.heap.Ns ce.locals m := hn
      rw [cL] at hn
      exact hRR D s3.heap.objs.size s6 m H5 I7 qq hn (I3.fpOk (Nat.le_refl _) nC)
    · refine thnF (T.item (blkH X s3 H3 scope ce fp) rfl rfl rfl hcB i [] s5 _ H5 (fun _ _ => False) I5 (stat I5 n5) st5 go) fun r s6 ⟨u, hr, h6⟩ => ?_
      subst hr
      refine thnF h6 fun _ s7 ⟨x, H7, I7, r7, y7, st7, n7⟩ => ?_
      have I7' := I7.pinned (stat I7 n7) (T.obj _ _ st7)
      refine thnF (pg.run _ s7 _ H7 x u _ I7' r7 (step x H7 y7)) fun _ s8 ⟨σ8, H8, I8, hw8, q8⟩ => thnF (pt.run _ s8 σ8 H8 _ I8 q8) fun b s9 ⟨H9, I9, q9⟩ => ?_
      have fin : ∀ {s' : Shared} {H' : Hp}, Inv (blkH X s3 H3 scope ce fp) ([] ++ pinsAt fp s7.heap) σ8 H' s' → Nx H' → ∃ m, m < n ∧ ∃ i H', Inv (blkH X s3 H3 scope ce fp) [] (wipe σ (own.map (·.2))) H' s' ∧ tn i s'.heap ∧ (∀ b ∈ fp, H' b = none) ∧ W i m H' := fun {s' H'} I' nx => by
        obtain ⟨m', hm, w'⟩ := hNx H' nx
        have pin' : ∀ b ∈ fp, ∀ o, s7.heap.get? b = some o → s'.heap.get? b = some o ∧ H' b = none := fun b hb o e =>
          let z := I'.pin (b, o) (List.mem_append_right _ (List.mem_append_right _ (mem_pinsAt hb e)))
          ⟨z.1, z.2.1⟩
        refine ⟨m', hm, i + 1, H', (I'.unpinned (pins := [])).weak (by rw [← hw8, wipe_length]) (fun j v e => ?_), T.keep _ _ _ st7 fun b hb o e => (pin' b hb o e).1, fun b hb => ?_, w'⟩
        · rw [← hw8] at e
          exact (wipe_some e).1
        · obtain ⟨o, e, _⟩ := T.obj _ _ st7 b hb
          exact (pin' b hb o e).2
      cases b with
      | false =>
        simp only [Bool.false_eq_true, if_false] at q9 ⊢
        exact fin I9 q9
      | true =>
        simp only [if_true] at q9 ⊢
        refine thnF (pe.run _ s9 σ8 H9 _ I9 q9) fun z s10 ⟨yv, H10, I10, r10, acc, hD10, hz10, nx⟩ => ?_
        exact app_ok (X := blkH X s3 H3 scope ce fp) I10 hD10 hz10 r10 fun s11 I11 => fin I11 nx
  exact codeAny_compStart_list loop (T.self X.A 0 _ _ _ st4 loop)
theorem pe_lcH {elt tg iter : Expr} {ifs : List Expr} {scope : Scope} {own : List (Str × Nat)} {pos : Pos} {wi : TI} {g : TG} {tt : TT} {te : TE} (hc : HotC X) (hN : X.N.Nodup) (hi : PIH X tg iter wi) (ok : BlkOk X.N X.env.scope scope own)
    (hg : ∀ (s : Shared) (H : Hp) (C : Addr) (cl : List (Str × Addr)) (fp : List Addr), PG (blkH X s H scope (compEnvC scope cl C X.env) fp) tg g) (ht : ∀ (s : Shared) (H : Hp) (C : Addr) (cl : List (Str × Addr)) (fp : List Addr), PTs (blkH X s H scope (compEnvC scope cl C X.env) fp) ifs tt)
    (he : ∀ (s : Shared) (H : Hp) (C : Addr) (cl : List (Str × Addr)) (fp : List Addr), PE (blkH X s H scope (compEnvC scope cl C X.env) fp) elt te) (hs : ∀ x, foldedSetIterable iter X.env x = pure x := by intro _; rfl) :
    PE X (.ListComp elt [⟨tg, iter, ifs, 0⟩] scope pos) (tLc wi g tt te (own.map (·.2))) := by
  refine ⟨fun pins s σ H Q I h => ?_⟩
  rw [eval_ListComp]
  refine lcH_core hc hN I hi ok hg ht he hs h fun D C s' m H' I' q hn f => ⟨m, hn, fun h'' sb => ?_⟩
  obtain ⟨f0, f1, f2, f3, f4, f5⟩ := f
  exact ⟨.ref D, H', I'.turned (t' := s'.toks) (fun b o hb e => (sb.2 b hb).trans e) f0 f1 f3 f4 f5, rfl, q⟩
end
/-- a def by its name, called there -/
structure FnT (P : Program) (w : World) (K : PySem.W.Frag) (mg : Str → Option Value) (base : Heap) (k : Nat) (x : Str) (sp : Sp) : Prop where
  run : ∃ f fd ps, mg x = some (.ref f) ∧ PySem.W.keepIn K (.ref f) = true ∧ FnH P w K mg base CX0 k f fd ps sp ∧ Binds K fd ps []
section
variable {X : Cx} {k : Nat} {sp : Sp} {x : Str} {p pos : Pos} {e : Expr} {es : List Expr} {t : TA}
theorem pe_fnT (F : FnT X.prog X.w X.K X.mg X.base k x sp) (hr : RoomH k X.A) (hc : HotC X) (ha : PA X (e :: es) t) (hg : Gl X x := by rfl) (hdb : (x == ("__debug__" : Str)) = false := by decide)
    (he : starEach (e :: es) X.env = (false, eval e X.env) :: starEach es X.env := by rfl) (hpl : (backTo pos (starEach es X.env)).any (·.1) = false := by rfl) :
    PE X (.Call (.Name x p) (e :: es) [] pos) (tR sp t) := by
  obtain ⟨f, fd, ps, hm, hk, F, hb⟩ := F.run
  exact pe_callH (E := fun _ => E0) F hr hc hg hm hk hb (fun _ _ _ _ _ _ _ z => z.elim) ha hdb he hpl
end
/-- how a def of the text keeps a promise there -/
theorem fnT_def {P : Program} {w : World} {K : PySem.W.Frag} {mg : Str → Option Value} {base : Heap} {x : Str} {params : Arguments} {body : List Stmt} {scope : Scope} {f : Addr} {fd : FuncData} {N ps : List Str} {k : Nat} {sp : Sp}
    (F : FunD K x x params body scope [] [] f fd) (hm : mg x = some (.ref f)) (S : FnScope N ps scope) (len : ∀ vs H Q E, sp vs H Q E → vs.length = ps.length)
    (hb : ∀ (kV doc pm : Value) (an : Option Addr) (cdv ct : Value) (us : List Value), us.length = ps.length → bindArgs (PySem.W.fnOf x x params body scope .none kV doc pm an cdv ct) ⟨us, []⟩ = pure (ps.zip us))
    (hbody : ∀ (cdv : Value) (A : Around) (outer : List Env) (s : Shared) (H : Hp) (vs : List V) (Q : VK) (E : XK) (p : Addr × Obj), Hot1 A p → RoomH k (A.deeper (envOfC x scope s.heap.objs.size f cdv)) → sp vs H Q E →
      ∃ t, PSs (cxH CX0 P w K mg base N x scope f cdv A outer s H E p) body t ∧ t ⟨fun _ H' => Q .non H', Q, fun _ _ => False, fun _ _ => False⟩ (start N vs) H) : FnT P w K mg base (k + 1) x sp := by
  have b := F.bindsN hb
  have kp := F.kp
  obtain ⟨oc, od, dV, kV, doc, pm, an, cdv, ct, osl, rfl, lk, hcd, hD, _⟩ := F.ex
  rcases hD with ⟨_, rfl⟩ | ⟨e, _⟩
  · exact ⟨f, _, ps, hm, kp, fn_ofH lk hcd S len fun A outer s H vs Q E p hot hr h => hbody cdv A outer s H vs Q E p hot hr h, b⟩
  · exact absurd rfl e
section
variable {σ : L2.St} {H : Hp} {K : PySem.W.Frag}
theorem r_iZip2 {ta : TA} {R : It → Hp → Prop} (h : ta σ H fun vs H1 => ∃ (k1 k2 : Bool) (a b : Addr) (xs ys : List V), vs = [.ref a, .ref b] ∧ SqB K k1 H1 a xs ∧ SqB K k2 H1 b ys ∧ R (ItZ2 K k1 k2 a b) H1) : iZip2 K ta σ H R := h
/-- a comprehension over two of one length -/
theorem r_lcZ2 {k1 k2 : Bool} {a b : Addr} {xs ys : List V} {g : TG} {tt : TT} {te : TE} {vs : List Nat} {D : Addr} {Qd : Hp → Prop} (hl : xs.length = ys.length) (Pv : Nat → Hp → Prop) (h0 : Pv 0 (upd H D (.lst []))) (hq : ∀ i H, Pv i H → SqB K k1 H a xs ∧ SqB K k2 H b ys)
    (hs : ∀ (i : Nat) (x y : V) (T : Addr) (H : Hp), xs[i]? = some x → ys[i]? = some y → Pv i H → H T = none → g (.ref T) (wipe σ vs) (upd H T (.tup [x, y])) fun σ2 H2 => wipe σ2 vs = wipe σ vs ∧ tt σ2 H2 fun b H3 =>
      if b = true then te σ2 H3 fun y H4 => ∃ acc, H4 D = some (.lst acc) ∧ acc.length < sizeLine ∧ Pv (i + 1) (upd H4 D (.lst (acc ++ [y]))) else Pv (i + 1) H3) (hd : ∀ H, Pv xs.length H → Qd H) :
    ∃ W : Nat → Nat → Hp → Prop, (∃ m, W 0 m (upd H D (.lst []))) ∧ ∀ i m H, W i m H →
      ((ItZ2 K k1 k2 a b).stop i H ∧ Qd H) ∨ ((ItZ2 K k1 k2 a b).go i H ∧ ∃ Nx : Hp → Prop, (∀ H', Nx H' → ∃ m', m' < m ∧ W (i + 1) m' H') ∧ ∀ x H', (ItZ2 K k1 k2 a b).yld i H x H' → g x (wipe σ vs) H' fun σ2 H2 => wipe σ2 vs = wipe σ vs ∧ tt σ2 H2 fun b H3 =>
        if b = true then te σ2 H3 fun y H4 => ∃ acc, H4 D = some (.lst acc) ∧ acc.length < sizeLine ∧ Nx (upd H4 D (.lst (acc ++ [y]))) else Nx H3) := by
  refine ⟨fun i m H => m = xs.length - i ∧ i ≤ xs.length ∧ Pv i H, ⟨xs.length, rfl, Nat.zero_le _, h0⟩, ?_⟩
  rintro i m H ⟨rfl, hi, p⟩
  obtain ⟨qx, qy⟩ := hq i H p
  by_cases hlt : i < xs.length
  · have hx : xs[i]? = some xs[i] := List.getElem?_eq_getElem hlt
    have hlt2 : i < ys.length := by omega
    have hy : ys[i]? = some ys[i] := List.getElem?_eq_getElem hlt2
    refine .inr ⟨⟨xs, ys, _, _, qx, qy, hx, hy⟩, Pv (i + 1), fun H' p' => ⟨xs.length - (i + 1), by omega, rfl, hlt, p'⟩, fun v H' y => ?_⟩
    obtain ⟨T, x', y', rfl, hT, rfl, f1, f2⟩ := y
    exact hs i x' y' T _ (f1 xs qx) (f2 ys qy) p hT
  · have e : i = xs.length := by omega
    subst e
    exact .inl ⟨⟨xs, ys, qx, qy, rfl, hl.symm⟩, hd H p⟩
end
end Yk

set_option maxHeartbeats 1000000
/-! Errors of the text's own classes with fields: raised, caught, their fields and classes asked. -/
namespace Yk
open PySem PySem.Spec PyProof.Rows L2 L2H
/-- the class of errors at C: as a value, for making, fields and isinstance -/
structure Xc (K : PySem.W.Frag) (mg : Str → Option Value) (x : Str) (C : Addr) : Prop where
  hm : mg x = some (.ref C)
  oe : OexC K C
  xf : XfC K C
  cl : (PySem.W.clsIn K C).isSome = true
  ha : PySem.W.findIn K (.ref C) "__class__" = some (some (.builtin "object.__class__"))
  hn : PySem.W.specialIn K (.builtin "object.__class__") "__get__" = some (some (.builtin "getset_descriptor.__get__"))
  ht : PySem.W.takesIn K (.builtin "object.__class__") = some true
  ho : PySem.W.mroIn K C (.type "object") = some true
/-- its __init__ -/
structure Xi (P : Program) (w : World) (K : PySem.W.Frag) (mg : Str → Option Value) (base : Heap) (k : Nat) (x : Str) (C : Addr) (sp : Sp) : Prop where
  run : ∃ fI fd ps, mg x = some (.ref C) ∧ OexC K C ∧ PySem.W.findIn K (.ref C) "__init__" = some (some (.ref fI)) ∧ PySem.W.typeIn K (.ref fI) = some (.type "function") ∧ FnOk P w K mg base CX0 k fI fd ps sp ∧ Binds K fd ps []
/-- self.f = v, and no more -/
def spInit1 (C : Addr) (f : Str) : Sp := fun vs H Q _ => ∃ (a : Addr) (v : V), vs = [.ref a, v] ∧ H a = some (exo a C none) ∧ ∀ d, H d = none → d ≠ a → Q .non (upd (upd H d (exd d [(f, v)])) a (exo a C (some d)))
section
variable {X : Cx} {k : Nat} {C : Addr} {sp : Sp} {x m f : Str} {o e : Expr} {es : List Expr} {pos p pos2 apos : Pos} {te ta : TE} {t : TA} {W : WX} {pl : Sem Bool}
theorem mkN_oex {R : List V → Hp → XK → Prop} (Fi : Xi X.prog X.w X.K X.mg X.base k x C sp) (hr : Room (k + 1) X.A) (hg : Gl X x) (ha : PA X (e :: es) t) (hdb : (x == ("__debug__" : Str)) = false)
    (he : starEach (e :: es) X.env = (false, eval e X.env) :: starEach es X.env) (hpl : (backTo pos (starEach es X.env)).any (·.1) = false)
    (hR : ∀ vs H1 Q, R vs H1 Q → vs.length ≤ 1000 ∧ ∀ a, H1 a = none → sp (.ref a :: vs) (upd H1 a (exo a C none)) (fun v H2 => v = .non ∧ ∃ (d : Addr) (fs : List (Str × V)), H2 a = some (exo a C (some d)) ∧ H2 d = some (exd d fs) ∧ H1 d = none ∧ Q (.ref C) (some d) (upd (del H2 a) d (.xd fs))) E0) :
    L2N.PMk X (.Call (.Name x p) (e :: es) [] pos) (fun σ H Q => t σ H fun vs H1 => R vs H1 Q) := by
  obtain ⟨fI, fd, ps, hm, T, iC, tI, F1, hb⟩ := Fi.run
  intro pins s σ H Q I h
  obtain ⟨nm, q, N, bs, bm, sn, sub, ab, col, dd, k0, k1, k2, k3, k5, hC, hbm⟩ := T.cls
  refine wpAny_Call_Name_kw (ld_glob I hg hm (PySem.W.callWith_K (h₀ := X.base) I.ok.mod.kin T.kC (thn (ha.run pos pins s σ H _ I h) fun us s1 ⟨vs, H1, I1, r1, hz⟩ => ⟨I1.kIn, ?_⟩) he hpl) hdb)
  obtain ⟨hz, q1⟩ := hR _ _ _ hz
  show wpAny _ _ (call (.ref C) us) _ _ _
  obtain ⟨hp, g, dr, tk, os⟩ := s1
  have hsz : hp.objs.size ≤ hp.objs.size + 1 := Nat.le_succ _
  have hq := q1 (hp.objs.size + 1) (I1.hok.fresh hsz)
  have kk : ∀ b o, hp.get? b = some o → ((hp.push (PySem.W.kdv_tup us)).push (PySem.HandSPX.excO C hp.objs.size)).get? b = some o := fun b o e => Heap.get?_push_of_some _ (Heap.get?_push_of_some _ e)
  have hget : ((hp.push (PySem.W.kdv_tup us)).push (PySem.HandSPX.excO C hp.objs.size)).get? (hp.objs.size + 1) = some (PySem.HandSPX.excO C hp.objs.size) := by heap_get
  have I2 : Inv X pins σ (upd H1 (hp.objs.size + 1) (exo (hp.objs.size + 1) C none)) ⟨(hp.push (PySem.W.kdv_tup us)).push (PySem.HandSPX.excO C hp.objs.size), g, dr, tk, os⟩ :=
    I1.laid (t' := tk) (a := hp.objs.size + 1) (o := exo (hp.objs.size + 1) C none) (h' := (hp.push (PySem.W.kdv_tup us)).push (PySem.HandSPX.excO C hp.objs.size)) kk hsz (exo_ok hget)
  have r2 : Vals (V.ref (hp.objs.size + 1) :: vs) (Value.ref (hp.objs.size + 1) :: us) := .cons rfl r1
  have hl : (Value.ref (hp.objs.size + 1) :: us).length = ps.length := by
    have e := r2.length
    rw [F1.len _ _ _ _ hq] at e
    exact e.symm
  have hus : us.length ≤ sizeLine := by
    rw [← Paired.length r1, sizeLine_eq]
    omega
  have b := hb _ (Value.ref (hp.objs.size + 1) :: us) I2.kIn (by rw [List.append_nil]; exact hl)
  rw [List.append_nil] at b
  refine wpAny_call (PySem.HandSPX.call_own PySem.F.excBase_ValueError (fun Y => PySem.HandSPX.refsVE_contains Y bm hbm) (I1.kIn _ _ hC) (PySem.W.looks_findIn I1.kIn iC) (fun self => PySem.W.bind_fn I1.kIn self tI) hus
    (codeAny_mono (F1.run _ X.stack _ _ ⟨Value.ref (hp.objs.size + 1) :: us, []⟩ (Value.ref (hp.objs.size + 1) :: us) _ _ E0 (hr.make C us []) (I2.env0.make C us []) b r2 hq) fun r s' hq' => ?_))
  cases r with
  | error er => exact hq'.elim
  | ok fl =>
    cases fl with
    | ret u =>
      obtain ⟨v, H2, os2, bare2, un2, hok2, rv, ev, d, fs, ea, ed, hd1, q2⟩ := hq'
      subst ev
      obtain ⟨h2, g2, d2, t2, os'⟩ := s'
      obtain ⟨t0, G, J, kG, ge, hoe, na⟩ := mk_end0 (d2 := d2) (t2 := t2) I1 hsz kk un2 hok2 os2 bare2 ea ed hd1
      exact ⟨rv, _, _, _, ⟨G, g2, d2, t2, os'⟩, _, .ref C, some d, rfl, J, kG, ge, hoe, ⟨rfl, rfl, fun vs e => by cases e; rfl⟩, rfl, rfl, na, rfl, bare2, raises_own T.exC T.tyC, q2⟩
    | next => exact hq'.elim
    | brk => exact hq'.elim
    | cont => exact hq'.elim
/-- raise x(v), x an error with one field -/
def tRaise1 (C : Addr) (f : Str) (W : WX) (t : TA) : TS := fun _ σ H => t σ H fun vs H1 => ∃ v, vs = [v] ∧ ∀ d, H1 d = none → W (.ref C) (some d) σ (upd H1 d (.xd [(f, v)]))
theorem ps_raise1 (F : Xi X.prog X.w X.K X.mg X.base k x C (spInit1 C f)) (hr : Room (k + 1) X.A) (hc : X.calm = true) (tk : L2N.Takes X W) (ha : PA X (e :: es) t) (hg : Gl X x := by rfl) (hdb : (x == ("__debug__" : Str)) = false := by decide)
    (he : starEach (e :: es) X.env = (false, eval e X.env) :: starEach es X.env := by rfl) (hpl : (backTo pos (starEach es X.env)).any (·.1) = false := by rfl) :
    PS X (.Raise (some (.Call (.Name x p) (e :: es) [] pos)) none pos2) (tRaise1 C f W t) := by
  refine L2N.ps_raise (pos := pos2) hc tk (mkN_oex (pos := pos) (p := p) (R := fun vs H1 Q => ∃ v, vs = [v] ∧ ∀ d, H1 d = none → Q (.ref C) (some d) (upd H1 d (.xd [(f, v)]))) F hr hg ha hdb he hpl fun vs H1 Q q => ?_)
  obtain ⟨v, rfl, q⟩ := q
  refine ⟨by show 1 ≤ 1000; decide, fun a ha1 => ⟨a, v, rfl, upd_same, fun d hd hda => ⟨rfl, d, [(f, v)], upd_same, by rw [upd_ne hda, upd_same], by rw [upd_ne hda] at hd; exact hd, ?_⟩⟩⟩
  have hd1 : H1 d = none := by rw [upd_ne hda] at hd; exact hd
  have e0 : upd (del (upd (upd (upd H1 a (exo a C none)) d (exd d [(f, v)])) a (exo a C (some d))) a) d (.xd [(f, v)]) = upd H1 d (.xd [(f, v)]) := by
    funext b
    by_cases h1 : b = d
    · rw [h1, upd_same, upd_same]
    · rw [upd_ne h1, upd_ne h1]
      by_cases h2 : b = a
      · rw [h2, del_same, ha1]
      · rw [del_ne h2, upd_ne h2, upd_ne h1, upd_ne h2]
  rw [e0]
  exact q d hd1
end
/-! a method that may raise; try; what the suite asks -/
structure MtX (P : Program) (w : World) (K : PySem.W.Frag) (mg : Str → Option Value) (base : Heap) (k : Nat) (C : Addr) (m : Str) (sp : Sp) : Prop where
  run : ∃ f fd ps, Cls K C ∧ Meth K C m f ∧ FnOk P w K mg base (L2N.CX P w) k f fd ps sp ∧ Binds K fd ps []
section
variable {X : Cx} {k : Nat} {C D a : Addr} {sp : Sp} {x m f n : Str} {o e : Expr} {es : List Expr} {pos p pos2 apos : Pos} {te ta : TE} {t : TA} {W Wout : WX} {pl : Sem Bool} {i : Nat} {oe : Obj} {cls : Value} {d : Option Addr} {pn : List (Addr × Obj)} {tb : WX → TS} {ts : Addr → Value → Option Addr → TS}
def tMtX (C : Addr) (m : Str) (sp : Sp) (W : WX) (te : TE) (t : TA) : TE := fun σ H Q => te σ H fun x H1 => ∃ a dx fs, x = .ref a ∧ H1 a = some (.ins C dx fs) ∧ fs.lookup m = none ∧ t σ H1 fun vs H2 => sp (x :: vs) H2 Q fun cls d H3 => W cls d σ H3
theorem pe_mtX (F : MtX X.prog X.w X.K X.mg X.base k C m sp) (hr : Room k X.A) (tk : L2N.Takes X W) (he : PE X o te) (ha : PA X (e :: es) t)
    (hst : starEach (e :: es) X.env = (false, eval e X.env) :: starEach es X.env := by rfl) (hpl : (backTo pos (starEach es X.env)).any (·.1) = false := by rfl)
    (ht : eval (.Call (.Attribute o m apos) (e :: es) [] pos) X.env = (do
      let ov ← eval o X.env
      standAt apos.atName
      let (f, first) ← holding [ov] (getMethod ov m pl)
      callWith pos f first (backTo pos (starEach (e :: es) X.env)) (backToKw pos (keywordEach [] X.env))) := by rfl) :
    PE X (.Call (.Attribute o m apos) (e :: es) [] pos) (tMtX C m sp W te t) := by
  obtain ⟨f, fd, ps, c, hm, F, hb⟩ := F.run
  refine ⟨fun pins s σ H Q I h => ?_⟩
  refine PySem.W.methodCall_KW (pl := pl) (thn (he.run pins s σ H _ I h) fun u s1 ⟨x, H1, I1, rx, a, dx, fs, ex, ea, l, q⟩ => ?_) ht
  subst ex
  obtain rfl : u = Value.ref a := rx
  refine getmeth_ok I1 ea c hm l (PySem.W.callWith_K (first := [.ref a]) (h₀ := X.base) I.ok.mod.kin hm.kp (thn (ha.run pos pins s1 σ H1 _ I1 q) fun us s2 ⟨vs, H2, I2, r, q2⟩ => ⟨I2.kIn, ?_⟩) hst hpl)
  exact run_fnS (E := WE W) (us := .ref a :: us) (vs := .ref a :: vs) F hr hb (L2N.passAt tk σ) I2 (.cons rfl r) q2
theorem takesN0 : L2N.Takes X (fun _ _ _ _ => False) := fun _ _ ⟨_, _, _, _, _, _, _, _, _, _, _, _, _, _, _, _, z⟩ => z.elim
/-- the suite of an except clause bears the error -/
theorem hot_suite (hz : L2N.Zn cls d oe) (hf : ∃ vs, oe.data = .fields vs) : HotC (X.suite a ((a, oe) :: pn)) := by
  obtain ⟨vs, hv⟩ := hf
  exact ⟨(a, oe), ⟨rfl, vs, hv, hz.2.2 vs hv⟩, List.mem_cons_self⟩
/-- isinstance of the caught error, its class D, its dict told -/
def rIsX (K : PySem.W.Frag) (D a : Addr) (cls : Value) (d : Option Addr) : List V → Hp → VK → Prop := fun xs H Q => ∃ (c : V) (cv : Value) (b : Bool) (dd : Addr) (fs : List (Str × V)), xs = [.ref a, c] ∧ (∀ u, RelV c u → u = cv) ∧ PySem.W.kitOne K (.ref D) cv = some b ∧ cls = .ref D ∧ d = some dd ∧ H dd = some (.xd fs) ∧ Q (.bl b) H
theorem call_isX (Y : Xc X.K X.mg x D) (hz : L2N.Zn cls d oe) (hf : ∃ vs, oe.data = .fields vs) : CallR (X.suite a ((a, oe) :: pn)) (.builtin "isinstance") (rIsX X.K D a cls d) := by
  intro pins s σ H xs us Q I r h
  obtain ⟨c, cv, b, dd, fs, rfl, hcv, e, rfl, rfl, hd, q⟩ := h
  cases r with
  | cons rx rr =>
    cases rr with
    | cons rt rr =>
      cases rr
      cases rx
      have ec := hcv _ rt
      subst ec
      obtain ⟨hget, _⟩ := I.pin (a, oe) (List.mem_append.mpr (.inl List.mem_cons_self))
      obtain ⟨vs, hv⟩ := hf
      have hx : ObjOk X.prog X.w H s.heap dd (.xd fs) := I.hok dd _ hd
      obtain ⟨mA, hns, _⟩ := hx
      obtain ⟨od, ho, _⟩ := lookIn_ns hns
      have J : PySem.W.InstAt s.heap a oe D (some od) := ⟨hget, hz.1, by unfold PySem.W.notCls; rw [hv] <;> rfl, by rw [hz.2.1]; exact ho⟩
      exact PySem.W.kia_one (PySem.W.kitx_exc Y.cl Y.xf.ga Y.xf.gg Y.xf.exC Y.ha Y.hn Y.ht Y.ho) I.kIn J e (fun z => nomatch z) fun tk => ⟨.bl b, H, I.kept (t' := tk) fun _ _ z => z, rfl, q⟩
end
section
variable {K : PySem.W.Frag} {σ : L2.St} {H : Hp} {Q : VK} {nx : L2.St → Hp → Prop} {rt : VK} {bk ct : L2.St → Hp → Prop} {C : Addr} {sp : Sp} {m f : Str} {W Wout : WX} {te : TE} {t : TA} {i : Nat} {ts : Addr → Value → Option Addr → TS} {c cls : Value} {d : Option Addr}
theorem r_raise1 {D : Ends} (h : t σ H fun vs H1 => ∃ v, vs = [v] ∧ ∀ d, H1 d = none → W (.ref C) (some d) σ (upd H1 d (.xd [(f, v)]))) : tRaise1 C f W t D σ H := h
theorem r_tMtX (h : te σ H fun x H1 => ∃ a dx fs, x = .ref a ∧ H1 a = some (.ins C dx fs) ∧ fs.lookup m = none ∧ t σ H1 fun vs H2 => sp (x :: vs) H2 Q fun cls d H3 => W cls d σ H3) : tMtX C m sp W te t σ H Q := h
/-- the clause names what is raised -/
theorem r_caught (e : PySem.W.exmOne K cls c = some true) (h : ∀ a, H a = none → ts a cls d ⟨fun σ' H' => nx (σ'.set i none) H', rt, fun σ' H' => bk (σ'.set i none) H', fun σ' H' => ct (σ'.set i none) H'⟩ (σ.set i (some (.ref a))) H) : wAs K c i ts Wout ⟨nx, rt, bk, ct⟩ cls d σ H :=
  ⟨true, e, fun _ => h, fun z => Bool.noConfusion z⟩
theorem r_xf {a C : Addr} {R : V → Prop} {dd : Addr} {fs : List (Str × V)} {v : V} (h1 : cls = .ref C) (h2 : d = some dd) (h3 : H dd = some (.xd fs)) (h4 : fs.lookup f = some v) (h : R v) : V.ref a = .ref a ∧ cls = .ref C ∧ ∃ (dd : Addr) (fs : List (Str × V)) (v : V), d = some dd ∧ H dd = some (.xd fs) ∧ fs.lookup f = some v ∧ R v := ⟨rfl, h1, dd, fs, v, h2, h3, h4, h⟩
theorem r_tXf {a C : Addr} (h : te σ H fun x H1 => x = .ref a ∧ cls = .ref C ∧ ∃ (dd : Addr) (fs : List (Str × V)) (v : V), d = some dd ∧ H1 dd = some (.xd fs) ∧ fs.lookup f = some v ∧ Q v H1) : tXf a cls d C f te σ H Q := h
end
/-- a method that may raise keeps its promise -/
theorem ok_methX {P : Program} {w : World} {K : PySem.W.Frag} {mg : Str → Option Value} {base : Heap} {f : Addr} {fd : FuncData} {x qual : Str} {params : Arguments} {body : List Stmt} {scope : Scope} {dvs : List V} {kws : List (Str × V)} {N ps : List Str} {k : Nat} {sp : Sp}
    (F : FunD K x qual params body scope dvs kws f fd) (S : FnScope N ps scope) (len : ∀ vs H Q E, sp vs H Q E → vs.length = ps.length)
    (hbody : ∀ (cdv : Value) (A : Around) (outer : List Env) (s : Shared) (H : Hp) (vs : List V) (Q : VK) (E : XK), Room k (A.deeper (envOfC qual scope s.heap.objs.size f cdv)) → sp vs H Q E →
      ∃ t, PSs (cxOf (L2N.CX P w) P w K mg base N qual scope f cdv A outer s H E) body t ∧ t ⟨fun _ H' => Q .non H', Q, fun _ _ => False, fun _ _ => False⟩ (start N vs) H) : FnOk P w K mg base (L2N.CX P w) (k + 1) f fd ps sp :=
  F.ok S len fun cdv A outer s H vs Q E hr h => hbody cdv A outer s H vs Q E hr h
end Yk

set_option maxHeartbeats 1000000
/-! What a head says of the text's own classes of errors. -/
namespace Xh
open PySem PySem.W PySem.Spec PyProof.Rows L2 He Yk
def oexB (K : Frag) (C : Addr) : Bool := match K.lookup C with
  | some ⟨.type "type", _, .cls cd, sl⟩ => (match cd.mro, sl.toList with
    | .ref C' :: bm, [_, _, _, _, some (.builtin n), _] => C' == C && (n == "ValueError.__new__" && (!cd.hasDel && (cd.hasDict && HandSPX.refsVE bm)))
    | _, _ => false)
  | _ => false
theorem oexB_ok {K : Frag} {C : Addr} (h : oexB K C = true) : ∃ nm q N bs bm sn sub ab col dd k0 k1 k2 k3 k5, K.lookup C = some (excClassObj nm q C N bs bm true sn sub ab col dd k0 k1 k2 k3 k5 "ValueError.__new__") ∧ HandSPX.refsVE bm = true := by
  unfold oexB at h
  split at h
  · rename_i dd cd sl ho
    split at h
    · rename_i C' bm k0 k1 k2 k3 n k5 hm hs
      simp only [Bool.and_eq_true, beq_iff_eq, Bool.not_eq_true'] at h
      obtain ⟨rfl, rfl, hdel, hdict, ht⟩ := h
      obtain ⟨nm, bs, mro, ns, qn, hd, sn, sub, ab, col, del⟩ := cd
      dsimp only at hm hdel hdict
      subst hm hdel hdict
      have hsl : sl = #[k0, k1, k2, k3, some (.builtin "ValueError.__new__"), k5] := by
        obtain ⟨l⟩ := sl
        simp only at hs
        rw [hs]
      subst hsl
      exact ⟨nm, qn, ns, bs, bm, sn, sub, ab, col, dd, k0, k1, k2, k3, k5, ho, ht⟩
    · cases h
  · cases h
def xcB (K : Frag) (x : Str) : Bool := oexB K (ga K x) && (eqO (findIn K (.ref (ga K x)) "__setattr__") (some (some (.builtin "object.__setattr__"))) && (decide (subIn K (.ref (ga K x)) (.type "BaseException") = some true) && (decide (typeIn K (.ref (ga K x)) = some (.type "type")) && (keepIn K (.ref (ga K x)) && (xfB K (ga K x) &&
  ((clsIn K (ga K x)).isSome && (eqO (findIn K (.ref (ga K x)) "__class__") (some (some (.builtin "object.__class__"))) && (eqO (specialIn K (.builtin "object.__class__") "__get__") (some (some (.builtin "getset_descriptor.__get__"))) && (decide (takesIn K (.builtin "object.__class__") = some true) && decide (mroIn K (ga K x) (.type "object") = some true))))))))))
theorem xcB_ok {K : Frag} {mg : Str → Option Value} {x : Str} (h : xcB K x = true) (hm : mg x = some (.ref (ga K x))) : Xc K mg x (ga K x) := by
  unfold xcB at h
  simp only [Bool.and_eq_true] at h
  obtain ⟨h1, h2, h3, h4, h5, h6, h7, h8, h9, h10, h11⟩ := h
  exact ⟨hm, ⟨oexB_ok h1, eqO_ok h2, of_decide_eq_true h3, of_decide_eq_true h4, h5⟩, xfB_ok h6, h7, eqO_ok h8, eqO_ok h9, of_decide_eq_true h10, of_decide_eq_true h11⟩
def xiB (K : Frag) (x : Str) : Bool := eqO (findIn K (.ref (ga K x)) "__init__") (some (some (.ref (ma K (ga K x) "__init__")))) && decide (typeIn K (.ref (ma K (ga K x) "__init__")) = some (.type "function"))
theorem xi_of {P : Program} {w : World} {K : Frag} {mg : Str → Option Value} {base : Heap} {k : Nat} {x : Str} {fd : FuncData} {ps : List Str} {sp : Sp} (Y : Xc K mg x (ga K x)) (h : xiB K x = true) (O : FnOk P w K mg base CX0 k (ma K (ga K x) "__init__") fd ps sp) (b : Binds K fd ps []) : Xi P w K mg base k x (ga K x) sp := by
  obtain ⟨h1, h2⟩ := Bool.and_eq_true_iff.mp h
  exact ⟨_, fd, ps, Y.hm, Y.oe, eqO_ok h1, of_decide_eq_true h2, O, b⟩
end Xh
namespace Yk
open PySem PySem.Spec PyProof.Rows L2 L2H
theorem fnT_none {P : Program} {w : World} {K : PySem.W.Frag} {mg : Str → Option Value} {base : Heap} {x : Str} {params : Arguments} {body : List Stmt} {scope : Scope} {f : Addr} {fd : FuncData} {ps : List Str} {sp : Sp} (F : FunD K x x params body scope [] [] f fd) (hm : mg x = some (.ref f))
    (hb : ∀ (kV doc pm : Value) (an : Option Addr) (cdv ct : Value) (us : List Value), us.length = ps.length → bindArgs (PySem.W.fnOf x x params body scope .none kV doc pm an cdv ct) ⟨us, []⟩ = pure (ps.zip us)) (no : ∀ vs H Q E, ¬ sp vs H Q E) : FnT P w K mg base 0 x sp :=
  ⟨f, fd, ps, hm, F.kp, ⟨fun vs H Q E h => absurd h (no _ _ _ _), fun A outer s H args us vs Q E p _ _ _ _ _ _ h => absurd h (no _ _ _ _)⟩, F.bindsN hb⟩
end Yk

set_option maxHeartbeats 2000000
/-! Errors of the text's own classes over LookupError and RuntimeError, with one field. -/
namespace Yk
open PySem PySem.Spec PyProof.Rows L2 L2H
structure EbF (B nw ni : String) (bm : List Value) : Prop where
  F : ExcBaseFacts B nw ni bm
  SF : StoreFacts B bm "object.__setattr__" "object"
abbrev leTail : List Value := [.type "LookupError", .type "Exception", .type "BaseException", .type "object"]
abbrev reTail : List Value := [.type "RuntimeError", .type "Exception", .type "BaseException", .type "object"]
theorem ebL : EbF "LookupError" "LookupError.__new__" "LookupError.__init__" leTail := ⟨PySem.F.excBase_LookupError, PySem.F.store_LookupError⟩
theorem ebR : EbF "RuntimeError" "RuntimeError.__new__" "RuntimeError.__init__" reTail := ⟨PySem.F.excBase_RuntimeError, PySem.F.store_RuntimeError⟩
structure OexT (K : PySem.W.Frag) (C : Addr) (nw : String) (bm : List Value) : Prop where
  ini : PySem.W.excInitIn K C bm nw = true
  ov : PySem.W.excOver K C bm = true
  hd : PySem.W.hasDictIn K C = true
  sa : PySem.W.findIn K (.ref C) "__setattr__" = some (some (.builtin "object.__setattr__"))
  exC : PySem.W.subIn K (.ref C) (.type "BaseException") = some true
  tyC : PySem.W.typeIn K (.ref C) = some (.type "type")
  kC : PySem.W.keepIn K (.ref C) = true
section
variable {X : Cx} {pins : List (Addr × Obj)} {σ : L2.St} {H : Hp} {s : Shared} {a C dx : Addr} {f : Str} {y : V} {u : Value} {fs : List (Str × V)} {Q : Unit → Shared → Prop} {E : Value → Shared → Prop} {A : Around} {B nw ni : String} {bm : List Value}
/-- the first field of an error over any of the bases: its dict is made -/
theorem osa_first {K : PySem.W.Frag} {prog : Program} {w : World} {hp : Heap} {g : Array GenState} {d : Drawn} {t : Nat} {os : OsState} {R : Result → Shared → Prop} {x t1 : Addr} {tk : Tok} {v : Value} (EF : EbF B nw ni bm) (T : OexT K C nw bm) (X : K.In hp) (hx : hp.get? x = some (PySem.W.excObj C t1 none .none)) (ha : PySem.W.findIn K (.ref C) f = some none)
    (hq : ∀ h' tk' dx, (∀ b o, b ≠ x → hp.get? b = some o → h'.get? b = some o) → hp.objs.size ≤ dx → dx ≠ x → h'.get? x = some (PySem.W.excObj C t1 (some dx) .none) → h'.Ns1 dx (fun y => if y = f then some v else none) → R (.ok (.ret .none)) ⟨h', g, d, tk', os⟩) :
    codeAny (model prog w) A (.call (.builtin "object.__setattr__") ⟨[.ref x, .str f tk, v], []⟩) R ⟨hp, g, d, t, os⟩ := by
  have hxs : x ≠ hp.objs.size := Nat.ne_of_lt (Heap.lt_size hx)
  refine PySem.W.osa_openX (s := ⟨hp, g, d, t, os⟩) (od := none) (r := none) EF.SF X ⟨hx, rfl, rfl, trivial⟩ T.ov (by unfold PySem.W.takerIn; rw [ha]; rfl) fun b => ?_
  obtain ⟨cd, hc, hd'⟩ := PySem.W.any_some T.hd
  refine wpAny_bind (wpAny_pure (wpAny_bind (PySem.W.instanceDict_exc (s := ⟨hp, g, d, t, os⟩) hx (PySem.W.looks_clsIn X hc) hd' ?_)))
  show wpAny _ _ (Builtin.ObjectAttr.storeInDict hp.objs.size (.str f tk) f v) _ _ _
  refine PySem.HandSPX.store_in_new ⟨_, #[], _, (Heap.get?_update_ne _ _ _ _ hxs.symm).trans (Heap.get?_push_at rfl rfl), rfl, fun e he => absurd he (by simp), fun _ => rfl⟩ fun h' tk' hn' hs => ?_
  have hx1 : (hp.push (PySem.W.dictOf [] 0)).get? x = some (PySem.W.excObj C t1 none .none) := Heap.get?_push_of_some _ hx
  refine hq h' tk' hp.objs.size (fun b o hb ho => ?_) (Nat.le_refl _) hxs.symm ?_ hn'
  · exact (hs.2 b (Nat.ne_of_lt (Heap.lt_size ho))).trans ((Heap.get?_update_ne _ _ _ _ hb).trans (Heap.get?_push_of_some _ ho))
  · exact (hs.2 x hxs).trans (Heap.get?_update_self _ hx1 rfl)
/-- self.f = y, the first one -/
theorem ost_firstT (EF : EbF B nw ni bm) (T : OexT X.K C nw bm) (I : Inv X pins σ H s) (e : H a = some (exo a C none)) (hno : PySem.W.findIn X.K (.ref C) f = some none) (ry : RelV y u)
    (h : ∀ dx s', H dx = none → dx ≠ a → Inv X pins σ (upd (upd H dx (exd dx [(f, y)])) a (exo a C (some dx))) s' → Q () s') : wpAny (model X.prog X.w) A (setAttr (.ref a) f u) Q E s := by
  obtain ⟨t1, ho⟩ := exo_at I.hok e
  obtain ⟨hp, g, d, t, os⟩ := s
  refine PySem.W.set_plain I.kIn (od := none) ⟨ho, rfl, rfl, trivial⟩ T.sa (osa_first EF T I.kIn ho hno fun h' tk' dx k dn dne hx hn => ?_)
  have hnd : H dx = none := I.hok.fresh dn
  have ne_dx : ∀ {b : Addr} {o : Obj}, hp.get? b = some o → b ≠ dx := fun {b o} q => Nat.ne_of_lt (Nat.lt_of_lt_of_le (Heap.lt_size q) dn)
  have ne_a : ∀ {b : Addr}, H b = none → b ≠ a := fun {b} n z => by
    rw [z, e] at n
    cases n
  have at_ : ∀ b, b ≠ a → b ≠ dx → upd (upd H dx (exd dx [(f, y)])) a (exo a C (some dx)) b = H b := fun b h1 h2 => by rw [upd_ne h1, upd_ne h2]
  refine h dx _ hnd dne (I.un (t' := tk') ⟨fun b o q n _ _ => k b o (ne_a n) q, fun b o q n _ _ => ⟨o.slots, k b o (ne_a n) q⟩, fun b o q n _ => by rw [at_ b (ne_a n) (ne_dx q)]; exact n, fun b o q _ => ?_,
    fun b xs q => by rw [at_ b (at_ne e q exo_tup) (ne_of_none q hnd)]; exact q, fun b o v q => by rw [at_ b (at_ne e q exo_frz) (ne_of_none q hnd)]; exact q, fun b ps q => ⟨#[], by rw [at_ b (at_ne e q exo_tbl) (ne_of_none q hnd), q]; simp⟩⟩ fun b o q => ?_)
  · by_cases hb : b = a
    · exact ⟨_, by rw [hb]; exact hx⟩
    · exact ⟨o, k b o hb q⟩
  · by_cases hb : b = a
    · subst hb
      rw [upd_same] at q
      cases q
      exact exo_ok hx
    · rw [upd_ne hb] at q
      by_cases hd : b = dx
      · subst hd
        rw [upd_same] at q
        cases q
        exact exd_ok hn (relO_put (fs := []) ry fun g => True.intro)
      · rw [upd_ne hd] at q
        refine (I.hok b o q).stay (fun c v hc z => k c v (hc.elim (fun hc => by rw [hc]; exact hb) fun hc => at_ne e hc exo_own) z) (fun c hc => ?_) (fun c xs hc => ?_)
        · rw [at_ c (at_ne e hc exo_own) (ne_of_none hc hnd)]
          exact hc
        · rw [at_ c (at_ne e hc exo_tup) (ne_of_none hc hnd)]
          exact hc
end
/-- self.f = e -/
def tOstT (K : PySem.W.Frag) (nw : String) (bm : List Value) (f : Str) (to te : TE) : TS := fun D σ H => te σ H fun y H1 => to σ H1 fun x H2 => ∃ a C : Addr, x = .ref a ∧ OexT K C nw bm ∧ PySem.W.findIn K (.ref C) f = some none ∧
  H2 a = some (exo a C none) ∧ ∀ dx, H2 dx = none → dx ≠ a → D.nx σ (upd (upd H2 dx (exd dx [(f, y)])) a (exo a C (some dx)))
section
variable {X : Cx} {o e : Expr} {to te : TE} {f : Str} {p' pos : Pos} {B nw ni : String} {bm : List Value}
theorem ps_ostT (EF : EbF B nw ni bm) (ho : PE X o to) (he : PE X e te) (hs : swapsWith e (some (.Attribute o f p')) pos.line X.env = pure false := by rfl) : PS X (.Assign [.Attribute o f p'] e pos) (tOstT X.K nw bm f to te) := by
  refine ⟨fun pins s σ H D I h => ?_⟩
  refine plainObj_wpAny_Assign_Attribute (thn (he.run pins s σ H _ I h) fun v s1 ⟨y, H1, I1, r1, q1⟩ => thn (ho.run pins s1 σ H1 _ I1 q1) fun u s2 ⟨x, H2, I2, r2, a, C, ex, T, hno, ea, q⟩ => ?_) hs
  subst ex
  obtain rfl : u = Value.ref a := r2
  exact ost_firstT EF T I2 ea hno r1 fun dx s' n ne J => ⟨σ, _, J, q dx n ne⟩
end
/-- the class of errors at C, over any of the bases -/
structure XcT (K : PySem.W.Frag) (mg : Str → Option Value) (x : Str) (C : Addr) (nw : String) (bm : List Value) : Prop where
  hm : mg x = some (.ref C)
  oe : OexT K C nw bm
  xf : XfC K C
  cl : (PySem.W.clsIn K C).isSome = true
  ha : PySem.W.findIn K (.ref C) "__class__" = some (some (.builtin "object.__class__"))
  hn : PySem.W.specialIn K (.builtin "object.__class__") "__get__" = some (some (.builtin "getset_descriptor.__get__"))
  ht : PySem.W.takesIn K (.builtin "object.__class__") = some true
  ho : PySem.W.mroIn K C (.type "object") = some true
structure XiT (P : Program) (w : World) (K : PySem.W.Frag) (mg : Str → Option Value) (base : Heap) (k : Nat) (x : Str) (C : Addr) (nw : String) (bm : List Value) (sp : Sp) : Prop where
  run : ∃ fI fd ps, mg x = some (.ref C) ∧ OexT K C nw bm ∧ PySem.W.findIn K (.ref C) "__init__" = some (some (.ref fI)) ∧ PySem.W.typeIn K (.ref fI) = some (.type "function") ∧ FnOk P w K mg base CX0 k fI fd ps sp ∧ Binds K fd ps []
section
variable {X : Cx} {k : Nat} {C : Addr} {sp : Sp} {x f : Str} {e : Expr} {es : List Expr} {pos p pos2 : Pos} {t : TA} {W : WX} {B nw ni : String} {bm : List Value}
theorem mkN_oexT {R : List V → Hp → XK → Prop} (EF : EbF B nw ni bm) (Fi : XiT X.prog X.w X.K X.mg X.base k x C nw bm sp) (hr : Room (k + 1) X.A) (hg : Gl X x) (ha : PA X (e :: es) t) (hdb : (x == ("__debug__" : Str)) = false)
    (he : starEach (e :: es) X.env = (false, eval e X.env) :: starEach es X.env) (hpl : (backTo pos (starEach es X.env)).any (·.1) = false)
    (hR : ∀ vs H1 Q, R vs H1 Q → vs.length ≤ 1000 ∧ ∀ a, H1 a = none → sp (.ref a :: vs) (upd H1 a (exo a C none)) (fun v H2 => v = .non ∧ ∃ (d : Addr) (fs : List (Str × V)), H2 a = some (exo a C (some d)) ∧ H2 d = some (exd d fs) ∧ H1 d = none ∧ Q (.ref C) (some d) (upd (del H2 a) d (.xd fs))) E0) :
    L2N.PMk X (.Call (.Name x p) (e :: es) [] pos) (fun σ H Q => t σ H fun vs H1 => R vs H1 Q) := by
  obtain ⟨fI, fd, ps, hm, T, iC, tI, F1, hb⟩ := Fi.run
  intro pins s σ H Q I h
  refine wpAny_Call_Name_kw (ld_glob I hg hm (PySem.W.callWith_K (h₀ := X.base) I.ok.mod.kin T.kC (thn (ha.run pos pins s σ H _ I h) fun us s1 ⟨vs, H1, I1, r1, hz⟩ => ⟨I1.kIn, ?_⟩) he hpl) hdb)
  obtain ⟨hz, q1⟩ := hR _ _ _ hz
  show wpAny _ _ (call (.ref C) us) _ _ _
  obtain ⟨hp, g, dr, tk, os⟩ := s1
  obtain ⟨nm, N, qn, bs, bm', hdct, sn, sub, ab, col, dd, k0, k1, k2, k3, k5, hC, hcont⟩ := PySem.W.excInit_of I1.kIn T.ini
  have hsz : hp.objs.size ≤ hp.objs.size + 1 := Nat.le_succ _
  have hq := q1 (hp.objs.size + 1) (I1.hok.fresh hsz)
  have kk : ∀ b o, hp.get? b = some o → ((hp.push (PySem.W.kdv_tup us)).push (PySem.HandSPX.excO C hp.objs.size)).get? b = some o := fun b o e => Heap.get?_push_of_some _ (Heap.get?_push_of_some _ e)
  have hget : ((hp.push (PySem.W.kdv_tup us)).push (PySem.HandSPX.excO C hp.objs.size)).get? (hp.objs.size + 1) = some (PySem.HandSPX.excO C hp.objs.size) := by heap_get
  have I2 : Inv X pins σ (upd H1 (hp.objs.size + 1) (exo (hp.objs.size + 1) C none)) ⟨(hp.push (PySem.W.kdv_tup us)).push (PySem.HandSPX.excO C hp.objs.size), g, dr, tk, os⟩ :=
    I1.laid (t' := tk) (a := hp.objs.size + 1) (o := exo (hp.objs.size + 1) C none) (h' := (hp.push (PySem.W.kdv_tup us)).push (PySem.HandSPX.excO C hp.objs.size)) kk hsz (exo_ok hget)
  have r2 : Vals (V.ref (hp.objs.size + 1) :: vs) (Value.ref (hp.objs.size + 1) :: us) := .cons rfl r1
  have hl : (Value.ref (hp.objs.size + 1) :: us).length = ps.length := by
    have e := r2.length
    rw [F1.len _ _ _ _ hq] at e
    exact e.symm
  have hus : us.length ≤ sizeLine := by
    rw [← Paired.length r1, sizeLine_eq]
    omega
  have b := hb _ (Value.ref (hp.objs.size + 1) :: us) I2.kIn (by rw [List.append_nil]; exact hl)
  rw [List.append_nil] at b
  refine wpAny_call (PySem.HandSPX.call_own EF.F hcont hC (PySem.W.looks_findIn I1.kIn iC) (fun self => PySem.W.bind_fn I1.kIn self tI) hus
    (codeAny_mono (F1.run _ X.stack _ _ ⟨Value.ref (hp.objs.size + 1) :: us, []⟩ (Value.ref (hp.objs.size + 1) :: us) _ _ E0 (hr.make C us []) (I2.env0.make C us []) b r2 hq) fun r s' hq' => ?_))
  cases r with
  | error er => exact hq'.elim
  | ok fl =>
    cases fl with
    | ret u =>
      obtain ⟨v, H2, os2, bare2, un2, hok2, rv, ev, d, fs, ea, ed, hd1, q2⟩ := hq'
      subst ev
      obtain ⟨h2, g2, d2, t2, os'⟩ := s'
      obtain ⟨t0, G, J, kG, ge, hoe, na⟩ := mk_end0 (d2 := d2) (t2 := t2) I1 hsz kk un2 hok2 os2 bare2 ea ed hd1
      exact ⟨rv, _, _, _, ⟨G, g2, d2, t2, os'⟩, _, .ref C, some d, rfl, J, kG, ge, hoe, ⟨rfl, rfl, fun vs e => by cases e; rfl⟩, rfl, rfl, na, rfl, bare2, raises_own T.exC T.tyC, q2⟩
    | next => exact hq'.elim
    | brk => exact hq'.elim
    | cont => exact hq'.elim
theorem ps_raise1T (EF : EbF B nw ni bm) (F : XiT X.prog X.w X.K X.mg X.base k x C nw bm (spInit1 C f)) (hr : Room (k + 1) X.A) (hc : X.calm = true) (tk : L2N.Takes X W) (ha : PA X (e :: es) t) (hg : Gl X x := by rfl) (hdb : (x == ("__debug__" : Str)) = false := by decide)
    (he : starEach (e :: es) X.env = (false, eval e X.env) :: starEach es X.env := by rfl) (hpl : (backTo pos (starEach es X.env)).any (·.1) = false := by rfl) :
    PS X (.Raise (some (.Call (.Name x p) (e :: es) [] pos)) none pos2) (tRaise1 C f W t) := by
  refine L2N.ps_raise (pos := pos2) hc tk (mkN_oexT (pos := pos) (p := p) (R := fun vs H1 Q => ∃ v, vs = [v] ∧ ∀ d, H1 d = none → Q (.ref C) (some d) (upd H1 d (.xd [(f, v)]))) EF F hr hg ha hdb he hpl fun vs H1 Q q => ?_)
  obtain ⟨v, rfl, q⟩ := q
  refine ⟨by show 1 ≤ 1000; decide, fun a ha1 => ⟨a, v, rfl, upd_same, fun d hd hda => ⟨rfl, d, [(f, v)], upd_same, by rw [upd_ne hda, upd_same], by rw [upd_ne hda] at hd; exact hd, ?_⟩⟩⟩
  have hd1 : H1 d = none := by rw [upd_ne hda] at hd; exact hd
  have e0 : upd (del (upd (upd (upd H1 a (exo a C none)) d (exd d [(f, v)])) a (exo a C (some d))) a) d (.xd [(f, v)]) = upd H1 d (.xd [(f, v)]) := by
    funext b
    by_cases h1 : b = d
    · rw [h1, upd_same, upd_same]
    · rw [upd_ne h1, upd_ne h1]
      by_cases h2 : b = a
      · rw [h2, del_same, ha1]
      · rw [del_ne h2, upd_ne h2, upd_ne h1, upd_ne h2]
  rw [e0]
  exact q d hd1
end
section
variable {X : Cx} {D a : Addr} {x : Str} {oe : Obj} {cls : Value} {d : Option Addr} {pn : List (Addr × Obj)} {nw : String} {bm : List Value}
theorem call_isXT (Y : XcT X.K X.mg x D nw bm) (hz : L2N.Zn cls d oe) (hf : ∃ vs, oe.data = .fields vs) : CallR (X.suite a ((a, oe) :: pn)) (.builtin "isinstance") (rIsX X.K D a cls d) := by
  intro pins s σ H xs us Q I r h
  obtain ⟨c, cv, b, dd, fs, rfl, hcv, e, rfl, rfl, hd, q⟩ := h
  cases r with
  | cons rx rr =>
    cases rr with
    | cons rt rr =>
      cases rr
      cases rx
      have ec := hcv _ rt
      subst ec
      obtain ⟨hget, _⟩ := I.pin (a, oe) (List.mem_append.mpr (.inl List.mem_cons_self))
      obtain ⟨vs, hv⟩ := hf
      have hx : ObjOk X.prog X.w H s.heap dd (.xd fs) := I.hok dd _ hd
      obtain ⟨mA, hns, _⟩ := hx
      obtain ⟨od, ho, _⟩ := lookIn_ns hns
      have J : PySem.W.InstAt s.heap a oe D (some od) := ⟨hget, hz.1, by unfold PySem.W.notCls; rw [hv] <;> rfl, by rw [hz.2.1]; exact ho⟩
      exact PySem.W.kia_one (PySem.W.kitx_exc Y.cl Y.xf.ga Y.xf.gg Y.xf.exC Y.ha Y.hn Y.ht Y.ho) I.kIn J e (fun z => nomatch z) fun tk => ⟨.bl b, H, I.kept (t' := tk) fun _ _ z => z, rfl, q⟩
end
end Yk

set_option maxHeartbeats 1000000
/-! Own special methods: in, len, truth, == with both answers. -/
namespace Yk
open PySem PySem.Spec PyProof.Rows L2
structure SmF (P : Program) (w : World) (K : PySem.W.Frag) (mg : Str → Option Value) (base : Heap) (k : Nat) (C : Addr) (nm : Str) (sp : Sp) : Prop where
  run : ∃ f fd ps, PySem.W.findIn K (.ref C) nm = some (some (.ref f)) ∧ PySem.W.isFn K (.ref f) = true ∧ FnOk P w K mg base CX0 k f fd ps sp ∧ Binds K fd ps []
section
variable {X : Cx} {pins : List (Addr × Obj)} {σ : L2.St} {H : Hp} {s : Shared} {k : Nat} {C a dx : Addr} {fs : List (Str × V)} {sp : Sp} {A1 : Around}
theorem run_sm {f : Addr} {fd : FuncData} {ps : List Str} {Q : VK} {vs : List V} {us : List Value} (sb : Sub X k A1) (F : FnOk X.prog X.w X.K X.mg X.base CX0 k f fd ps sp) (hb : Binds X.K fd ps []) (I : Inv X pins σ H s) (r : Vals vs us) (h : sp vs H Q E0) :
    wpAny (model X.prog X.w) A1 (call (.ref f) us) (EP X pins σ Q) X.xe s := by
  have e0 : Env0 X.prog X.w X.K X.mg X.base A1 X.stack s H := by
    have e := I.env0
    exact ⟨by rw [sb.fr]; exact e.frames, e.mod, e.bs, e.bsz, e.funs, e.frf, e.hok, e.bare⟩
  have hl := F.len _ _ _ _ h
  have hlu : us.length = ps.length := by rw [← r.length]; exact hl
  refine wpAny_call (codeAny_mono (F.run A1 X.stack s H ⟨us, []⟩ us vs Q E0 sb.room e0 (by
    have := hb s us I.kIn (by rw [List.append_nil]; exact hlu)
    rw [List.append_nil] at this
    exact this) r h) fun r s' hq => ?_)
  cases r with
  | error e => exact (show False from hq).elim
  | ok fl =>
    cases fl with
    | ret u => exact I.after hq
    | next => exact False.elim hq
    | brk => exact False.elim hq
    | cont => exact False.elim hq
theorem inst_sm (I : Inv X pins σ H s) (ha : H a = some (.ins C dx fs)) : ∃ od, PySem.W.InstAt s.heap a (PySem.W.instObj C dx) C od := by
  obtain ⟨mA, J, _⟩ := ins_get I.hok ha
  obtain ⟨od, J, _⟩ := J.look
  exact ⟨_, J⟩
theorem truthy_b {M : Model} {b : Bool} {Q : Bool → Shared → Prop} {E : Value → Shared → Prop} (h : Q b s) : wpAny M A1 (truthy (.bool b)) Q E s := by
  unfold truthy
  exact wpAny_pure h
/-- x in a -/
def rInO (C : Addr) (sp : Sp) (neg : Bool) : R2 := fun x y H Q => ∃ a dx fs, y = .ref a ∧ H a = some (.ins C dx fs) ∧ sp [.ref a, x] H (fun r H' => ∃ b, r = .bl b ∧ Q (.bl (if neg = true then !b else b)) H') E0
theorem op_inO (F : SmF X.prog X.w X.K X.mg X.base k C "__contains__" sp) (hr : Room k X.A) : OpR X (compareOp .In) (rInO C sp false) := by
  intro pins s σ H x y v u Q I rx ry h
  obtain ⟨a, dx, fs, rfl, ha, q⟩ := h
  cases ry
  obtain ⟨f, fd, ps, hs, hf, F, hb⟩ := F.run
  obtain ⟨od, J⟩ := inst_sm I ha
  obtain ⟨m, hF⟩ := I.fr
  refine PySem.W.in_K hF I.ok.mod.kin J hs hf (wpAny_mono (run_sm (vs := [.ref a, x]) ⟨hr, rfl⟩ F hb I (.cons rfl (.cons rx .nil)) q) (fun r s' z => ?_) fun _ _ e => e)
  obtain ⟨r', H', I', rr, b, e, q'⟩ := z
  subst e
  obtain rfl : r = Value.bool b := rr
  exact truthy_b ⟨.bl b, H', I', rfl, q'⟩
theorem op_notInO (F : SmF X.prog X.w X.K X.mg X.base k C "__contains__" sp) (hr : Room k X.A) : OpR X (compareOp .NotIn) (rInO C sp true) := by
  intro pins s σ H x y v u Q I rx ry h
  obtain ⟨a, dx, fs, rfl, ha, q⟩ := h
  cases ry
  obtain ⟨f, fd, ps, hs, hf, F, hb⟩ := F.run
  obtain ⟨od, J⟩ := inst_sm I ha
  obtain ⟨m, hF⟩ := I.fr
  refine PySem.W.notIn_K hF I.ok.mod.kin J hs hf (wpAny_mono (run_sm (vs := [.ref a, x]) ⟨hr, rfl⟩ F hb I (.cons rfl (.cons rx .nil)) q) (fun r s' z => ?_) fun _ _ e => e)
  obtain ⟨r', H', I', rr, b, e, q'⟩ := z
  subst e
  obtain rfl : r = Value.bool b := rr
  exact truthy_b ⟨.bl (!b), H', I', rfl, q'⟩
/-- len(a) -/
def rLenO (C : Addr) (sp : Sp) : List V → Hp → VK → Prop := fun xs H Q => ∃ a dx fs, xs = [.ref a] ∧ H a = some (.ins C dx fs) ∧ sp [.ref a] H (fun r H' => ∃ n : Nat, r = .int (n : Int) ∧ n < 2 ^ 62 ∧ Q (.int (n : Int)) H') E0
theorem call_lenO (F : SmF X.prog X.w X.K X.mg X.base k C "__len__" sp) (hr : Room (k + 1) X.A) : CallR X (.builtin "len") (rLenO C sp) := by
  intro pins s σ H xs us Q I r h
  obtain ⟨a, dx, fs, rfl, ha, q⟩ := h
  cases r with
  | cons r1 rr =>
    cases rr
    cases r1
    obtain ⟨f, fd, ps, hs, hf, F, hb⟩ := F.run
    obtain ⟨od, J⟩ := inst_sm I ha
    obtain ⟨m, hF⟩ := I.fr
    refine PySem.W.len_K hF I.ok.mod.kin J hs hf (wpAny_mono (run_sm (A1 := X.A.in1) (vs := [.ref a]) ⟨hr.in1, rfl⟩ F hb I (.cons rfl .nil) q) (fun r s' z => ?_) fun _ _ e => e)
    obtain ⟨r', H', I', rr, n, e, hn, q'⟩ := z
    subst e
    obtain ⟨t, rfl⟩ := rr
    exact ⟨⟨by omega, by omega⟩, .int (n : Int), H', I'.tok _, ⟨_, rfl⟩, q'⟩
/-- the truth of an own object -/
def tTruO (C : Addr) (sp : Sp) (te : TE) : TT := fun σ H Q => te σ H fun x H1 => ∃ a dx fs, x = .ref a ∧ H1 a = some (.ins C dx fs) ∧ sp [.ref a] H1 (fun r H' => ∃ b, r = .bl b ∧ Q b H') E0
theorem pt_truO {e : Expr} {te : TE} (F : SmF X.prog X.w X.K X.mg X.base k C "__bool__" sp) (hr : Room k X.A) (h : PE X e te) (he : ∀ whole, isTrue e X.env whole = (do let v ← whole; standAt e.pos; holding [v] (truthy v)) := by intro _; rfl) : PT X e (tTruO C sp te) := by
  refine ⟨fun pins s σ H Q I hw => ?_⟩
  rw [he]
  refine wpAny_bind (thn (h.run pins s σ H _ I hw) fun u s1 ⟨x, H1, I1, rx, a, dx, fs, ex, ha, q⟩ => ?_)
  subst ex
  obtain rfl : u = Value.ref a := rx
  obtain ⟨f, fd, ps, hs, hf, F, hb⟩ := F.run
  obtain ⟨od, J⟩ := inst_sm I1 ha
  obtain ⟨m, hF⟩ := I1.fr
  refine wpAny_bind (wpAny_standAt (wpAny_holding (PySem.W.truthy_K hF I1.ok.mod.kin J hs hf (wpAny_mono (run_sm (vs := [.ref a]) ⟨hr, rfl⟩ F hb I1 (.cons rfl .nil) q) (fun r s' z => ?_) fun _ _ e => e))))
  obtain ⟨r', H', I', rr, b, e, q'⟩ := z
  subst e
  obtain rfl : r = Value.bool b := rr
  exact ⟨H', I', q'⟩
/-- a == y, a an own object, y one of its class or of another type -/
def rEqO (K : PySem.W.Frag) (C : Addr) (sp : Sp) : R2 := fun x y H Q => ∃ a dx fs, x = .ref a ∧ H a = some (.ins C dx fs) ∧ ((∃ a2 dx2 fs2, y = .ref a2 ∧ H a2 = some (.ins C dx2 fs2)) ∨ (PySem.W.subIn K (.type "list") (.ref C) = some false ∧ ∃ l xs, y = .ref l ∧ SqL K H l xs)) ∧ sp [.ref a, y] H (fun r H' => ∃ b, r = .bl b ∧ Q (.bl b) H') E0
theorem op_eqO (F : SmF X.prog X.w X.K X.mg X.base k C "__eq__" sp) (hr : Room k X.A) : OpR X (compareOp .Eq) (rEqO X.K C sp) := by
  intro pins s σ H x y v u Q I rx ry h
  obtain ⟨a, dx, fs, rfl, ha, hy, q⟩ := h
  cases rx
  obtain ⟨f, fd, ps, hs, hf, F, hb⟩ := F.run
  obtain ⟨od, J⟩ := inst_sm I ha
  obtain ⟨m, hF⟩ := I.fr
  have fin : wpAny (model X.prog X.w) X.A (call (.ref f) [.ref a, u]) (PySem.W.CmpBack fun r s' => EP X pins σ Q r s') X.xe s := wpAny_mono (run_sm (vs := [.ref a, y]) ⟨hr, rfl⟩ F hb I (.cons rfl (.cons ry .nil)) q) (fun r s' z => by
    obtain ⟨r', H', I', rr, b, e, q'⟩ := z
    subst e
    obtain rfl : r = Value.bool b := rr
    exact ⟨.bl b, H', I', rfl, q'⟩) fun _ _ e => e
  show wpAny (model X.prog X.w) X.A (richCompare .Eq (.ref a) u) _ _ _
  rcases hy with ⟨a2, dx2, fs2, rfl, ha2⟩ | ⟨hsub, l, xs, rfl, hl⟩
  · cases ry
    obtain ⟨od2, J2⟩ := inst_sm I ha2
    exact PySem.W.cmp_K (op := .Eq) (tb := .ref C) hr.units0 hF I.ok.mod.kin J J2.type (by simp [PySem.W.notFirst]) hs hf fin
  · cases ry
    obtain ⟨its, rv, pl, hz⟩ := I.list hl
    refine PySem.W.cmp_K (op := .Eq) (tb := .type "list") hr.units0 hF I.ok.mod.kin J ?_ (by unfold PySem.W.notFirst; rw [hsub]; simp) hs hf fin
    obtain ⟨o, n, e1, e2, _⟩ := pl
    exact fun A Q E s k q => wpAny_typeOf_ref (k _ _ e1) (by rw [e2]; exact q)
end
section
variable {X : Cx} {k : Nat} {C : Addr} {sp : Sp} {x : Str} {p pos : Pos}
/-- C() -/
theorem pe_cr0 (F : Cr X.prog X.w X.K X.mg X.base k x C sp) (hr : Room (k + 1) X.A) (hg : Gl X x := by rfl) (hx : Passes CX0 X E0 := by exact pass0) (hdb : (x == ("__debug__" : Str)) = false := by decide) : PE X (.Call (.Name x p) [] [] pos) (tCr C sp tNil) := by
  obtain ⟨f, hm, M, F⟩ := F.run
  refine ⟨fun pins s σ H Q I h => ?_⟩
  refine wpAny_Call_Name_kw (ld_glob I hg hm ?_ hdb)
  exact PySem.W.callWith_K0 I.kIn M.kp (StX.run_makeR M F hr hx I .nil h)
end
end Yk

set_option maxHeartbeats 1000000
/-! What a head says of the text's own classes of errors over any of the bases, and of own special methods. -/
namespace Xh
open PySem PySem.W PySem.Spec PyProof.Rows L2 He Yk
def xcTB (K : Frag) (x : Str) (nw : String) (bm : List Value) : Bool := excInitIn K (ga K x) bm nw && (excOver K (ga K x) bm && (hasDictIn K (ga K x) && (eqO (findIn K (.ref (ga K x)) "__setattr__") (some (some (.builtin "object.__setattr__"))) && (decide (subIn K (.ref (ga K x)) (.type "BaseException") = some true) && (decide (typeIn K (.ref (ga K x)) = some (.type "type")) && (keepIn K (.ref (ga K x)) && (xfB K (ga K x) &&
  ((clsIn K (ga K x)).isSome && (eqO (findIn K (.ref (ga K x)) "__class__") (some (some (.builtin "object.__class__"))) && (eqO (specialIn K (.builtin "object.__class__") "__get__") (some (some (.builtin "getset_descriptor.__get__"))) && (decide (takesIn K (.builtin "object.__class__") = some true) && decide (mroIn K (ga K x) (.type "object") = some true))))))))))))
theorem xcTB_ok {K : Frag} {mg : Str → Option Value} {x : Str} {nw : String} {bm : List Value} (h : xcTB K x nw bm = true) (hm : mg x = some (.ref (ga K x))) : XcT K mg x (ga K x) nw bm := by
  unfold xcTB at h
  simp only [Bool.and_eq_true] at h
  obtain ⟨i1, i2, i3, h2, h3, h4, h5, h6, h7, h8, h9, h10, h11⟩ := h
  exact ⟨hm, ⟨i1, i2, i3, eqO_ok h2, of_decide_eq_true h3, of_decide_eq_true h4, h5⟩, xfB_ok h6, h7, eqO_ok h8, eqO_ok h9, of_decide_eq_true h10, of_decide_eq_true h11⟩
theorem xiT_of {P : Program} {w : World} {K : Frag} {mg : Str → Option Value} {base : Heap} {k : Nat} {x : Str} {fd : FuncData} {ps : List Str} {sp : Sp} {nw : String} {bm : List Value} (Y : XcT K mg x (ga K x) nw bm) (h : xiB K x = true) (O : FnOk P w K mg base CX0 k (ma K (ga K x) "__init__") fd ps sp) (b : Binds K fd ps []) : XiT P w K mg base k x (ga K x) nw bm sp := by
  obtain ⟨h1, h2⟩ := Bool.and_eq_true_iff.mp h
  exact ⟨_, fd, ps, Y.hm, Y.oe, eqO_ok h1, of_decide_eq_true h2, O, b⟩
def smB (K : Frag) (x nm : Str) : Bool := eqO (findIn K (.ref (ga K x)) nm) (some (some (.ref (ma K (ga K x) nm)))) && isFn K (.ref (ma K (ga K x) nm))
theorem sm_of {P : Program} {w : World} {K : Frag} {mg : Str → Option Value} {base : Heap} {k : Nat} {x nm : Str} {fd : FuncData} {ps : List Str} {sp : Sp} (h : smB K x nm = true) (O : FnOk P w K mg base CX0 k (ma K (ga K x) nm) fd ps sp) (b : Binds K fd ps []) : SmF P w K mg base k (ga K x) nm sp := by
  obtain ⟨h1, h2⟩ := Bool.and_eq_true_iff.mp h
  exact ⟨_, fd, ps, eqO_ok h1, h2, O, b⟩
end Xh
namespace Hk
open PySem PySem.Spec PyProof.Rows L2 He
def tyB (K : PySem.W.Frag) (x : Str) : Bool := eqO (PySem.W.findIn K (.ref (ga K x)) "__class__") (some (some (.builtin "object.__class__"))) && (eqO (PySem.W.specialIn K (.builtin "object.__class__") "__get__") (some (some (.builtin "getset_descriptor.__get__"))) &&
  (decide (PySem.W.takesIn K (.builtin "object.__class__") = some true) && (decide (PySem.W.mroIn K (ga K x) (.type "object") = some true) && decide (PySem.W.kitOne K (.ref (ga K x)) (.ref (ga K x)) = some true))))
theorem tyB_ok {K : PySem.W.Frag} {x : Str} (h : tyB K x = true) (c : Cls K (ga K x)) : Yk.Ty1 K (ga K x) ∧ PySem.W.kitOne K (.ref (ga K x)) (.ref (ga K x)) = some true := by
  obtain ⟨h1, h⟩ := Bool.and_eq_true_iff.mp h
  obtain ⟨h2, h⟩ := Bool.and_eq_true_iff.mp h
  obtain ⟨h3, h⟩ := Bool.and_eq_true_iff.mp h
  obtain ⟨h4, h5⟩ := Bool.and_eq_true_iff.mp h
  exact ⟨⟨fun H a dx fs e => TyX.base (TyOf.ins e c (eqO_ok h1) (eqO_ok h2) (of_decide_eq_true h3) (of_decide_eq_true h4))⟩, of_decide_eq_true h5⟩
end Hk

set_option maxHeartbeats 0
namespace YkHead
open PySem PySem.Spec PyProof.Rows L2 Yk
def dD (x : Str) (i : Nat) : Hk.DefP := ⟨fun K => He.ga K x, x, x, defArgs (top i), defBody (top i), defScope (top i), [], []⟩
def fn0 : List Hk.DefP := [dD "is_number" 1, dD "_law_bag" 8, dD "_law_draw" 9, dD "_law_of" 10, dD "_law_mixed" 11, dD "_law_amount" 12, dD "_law_same" 13, dD "_law_some" 14, dD "_law_word" 15, dD "_law_chan" 16, dD "_law_refused" 17, dD "_law_strange" 18, dD "_law_deed" 19, dD "_law_looks" 20, dD "_law_equal" 21, dD "law" 22, ⟨fun K => He.ma K (He.ga K "Bag") "__init__", "__init__", "Bag.__init__", defArgs (inClass (top 6) 0), defBody (inClass (top 6) 0), defScope (inClass (top 6) 0), [], []⟩, ⟨fun K => He.ma K (He.ga K "Bag") "__contains__", "__contains__", "Bag.__contains__", defArgs (inClass (top 6) 8), defBody (inClass (top 6) 8), defScope (inClass (top 6) 8), [], []⟩, ⟨fun K => He.ma K (He.ga K "Bag") "__len__", "__len__", "Bag.__len__", defArgs (inClass (top 6) 10), defBody (inClass (top 6) 10), defScope (inClass (top 6) 10), [], []⟩, ⟨fun K => He.ma K (He.ga K "Bag") "__bool__", "__bool__", "Bag.__bool__", defArgs (inClass (top 6) 11), defBody (inClass (top 6) 11), defScope (inClass (top 6) 11), [], []⟩]
def fn1 : List Hk.DefP := [⟨fun K => He.ma K (He.ga K "Bag") "put", "put", "Bag.put", defArgs (inClass (top 6) 1), defBody (inClass (top 6) 1), defScope (inClass (top 6) 1), [], []⟩, ⟨fun K => He.ma K (He.ga K "Bag") "letters", "letters", "Bag.letters", defArgs (inClass (top 6) 4), defBody (inClass (top 6) 4), defScope (inClass (top 6) 4), [], []⟩, ⟨fun K => He.ma K (He.ga K "NoSuchLetter") "__init__", "__init__", "NoSuchLetter.__init__", defArgs (inClass (top 4) 0), defBody (inClass (top 4) 0), defScope (inClass (top 4) 0), [], []⟩, ⟨fun K => He.ma K (He.ga K "Bag") "_letter", "_letter", "Bag._letter", defArgs (inClass (top 6) 7), defBody (inClass (top 6) 7), defScope (inClass (top 6) 7), [], []⟩, ⟨fun K => He.ma K (He.ga K "Bag") "take", "take", "Bag.take", defArgs (inClass (top 6) 2), defBody (inClass (top 6) 2), defScope (inClass (top 6) 2), [], []⟩, ⟨fun K => He.ma K (He.ga K "Bag") "double", "double", "Bag.double", defArgs (inClass (top 6) 3), defBody (inClass (top 6) 3), defScope (inClass (top 6) 3), [], []⟩, ⟨fun K => He.ma K (He.ga K "Bag") "__eq__", "__eq__", "Bag.__eq__", defArgs (inClass (top 6) 9), defBody (inClass (top 6) 9), defScope (inClass (top 6) 9), [], []⟩, ⟨fun K => He.ma K (He.ga K "Bag") "older", "older", "Bag.older", defArgs (inClass (top 6) 5), defBody (inClass (top 6) 5), defScope (inClass (top 6) 5), [], []⟩, ⟨fun K => He.ma K (He.ga K "Bag") "copy", "copy", "Bag.copy", defArgs (inClass (top 6) 6), defBody (inClass (top 6) 6), defScope (inClass (top 6) 6), [], []⟩]
def fn : List Hk.DefP := fn0 ++ fn1
def fa0 : List He.Fa := [.glo "Bag", .cls "Bag", .noat "Bag" "_letters", .noat "Bag" "_coming", .mkr "Bag", .meth "Bag" "put", .meth "Bag" "letters", .meth "Bag" "_letter", .meth "Bag" "take", .meth "Bag" "double", .meth "Bag" "older", .meth "Bag" "copy", .glo "NoSuchLetter", .glo "Missing", .glo "is_number", .glo "_law_bag", .glo "_law_draw", .glo "_law_of", .glo "_law_mixed", .glo "_law_amount"]
def fa1 : List He.Fa := [.glo "_law_same", .glo "_law_some", .glo "_law_word", .glo "_law_chan", .glo "_law_refused", .glo "_law_strange", .glo "_law_deed", .glo "_law_looks", .glo "_law_equal", .glo "law", .free "LookupError", .free "all", .free "any", .free "bool", .free "divmod", .free "int", .free "isinstance", .free "len", .free "list", .free "max"]
def fa2 : List He.Fa := [.free "min", .free "range", .free "str", .free "sum", .free "tuple", .free "zip"]
def fa : List He.Fa := fa0 ++ fa1 ++ fa2
def ex (K : PySem.W.Frag) : Bool := decide (PySem.W.subIn K (.type "list") (.ref (He.ga K "Bag")) = some false) && decide (PySem.W.kitOne K (.type "list") (.ref (He.ga K "Bag")) = some false) && Xh.smB K "Bag" "__contains__" && Xh.smB K "Bag" "__len__" && Xh.smB K "Bag" "__bool__" && Xh.smB K "Bag" "__eq__" && Xh.xcTB K "NoSuchLetter" "LookupError.__new__" leTail && Xh.xiB K "NoSuchLetter" && He.eqO (PySem.W.findIn K (.ref (He.ga K "NoSuchLetter")) "number") (some none) && decide (PySem.W.exmOne K (.ref (He.ga K "NoSuchLetter")) (.ref (He.ga K "NoSuchLetter")) = some true) && decide (PySem.W.kitOne K (.ref (He.ga K "NoSuchLetter")) (.ref (He.ga K "Missing")) = some true) && Hk.tyB K "Bag"
abbrev R : PySem.W.OpenRow := PySem.W.OpenLaw.row PySem.Challenge.rw_bandheld_k30_whole_bags
def as_0 : List Addr := [3, 6, 4, 21, 31, 51, 143, 154, 161, 168, 175, 182, 187, 194, 201, 208, 215, 220, 227, 232, 237, 244, 0, 20, 30, 50, 142, 153, 160, 167, 174, 181, 186, 193, 200, 207, 214, 219, 226, 231]
def as_1 : List Addr := [236, 243, 15, 16, 17, 18, 19, 29, 32, 48, 49, 67, 74, 81, 88, 95, 100, 105, 112, 119, 126, 133, 140, 141, 144, 145, 148, 149, 150, 151, 152, 155, 156, 157, 158, 159, 162, 163, 164, 165]
def as_2 : List Addr := [166, 169, 170, 171, 172, 173, 176, 177, 178, 179, 180, 183, 184, 185, 188, 189, 190, 191, 192, 195, 196, 197, 198, 199, 202, 203, 204, 205, 206, 209, 210, 211, 212, 213, 216, 217, 218, 221, 222, 223]
def as_3 : List Addr := [224, 225, 228, 229, 230, 233, 234, 235, 238, 239, 240, 241, 242, 47, 66, 73, 80, 87, 94, 99, 104, 111, 118, 125, 132, 139, 42, 43, 44, 45, 46, 61, 62, 63, 64, 65, 68, 69, 70, 71]
def as_4 : List Addr := [72, 75, 76, 77, 78, 79, 82, 83, 84, 85, 86, 89, 90, 91, 92, 93, 96, 97, 98, 101, 102, 103, 106, 107, 108, 109, 110, 113, 114, 115, 116, 117, 120, 121, 122, 123, 124, 127, 128, 129]
def as_5 : List Addr := [130, 131, 134, 135, 136, 137, 138, 2]
def as_ : List Addr := as_0 ++ as_1 ++ as_2 ++ as_3 ++ as_4 ++ as_5
def tf : List He.Defn := [("_law_deed", none)]
noncomputable abbrev hk : PySem.W.Hook := Hk.hookT as_ fa fn tf ex
def ob (s : PySem.W.SharedT) : Hk.Al × Bool := Hk.obGT as_ fa fn tf ex (HandSHeadRun.getT s)
theorem ob_eq (s : PySem.W.SharedT) : ob s = hk.obs s.abs := Hk.obGT_eq (HandSHeadRun.getT_eq s)
def loose0 : List Str := ["is_number", "_law_bag", "_law_draw", "_law_of", "_law_mixed", "_law_amount", "_law_same", "_law_some", "_law_word", "_law_chan", "_law_refused", "_law_strange", "_law_deed", "_law_looks", "_law_equal", "Missing", "NoSuchLetter", "Bag"]
def loose : List Str := loose0
abbrev vw : Program := PySem.W.view R.prog [22]
theorem run (w : World) : HandSHeadRun.RunEqI R vw hk ob 8000 loose w := by
  unfold HandSHeadRun.RunEqI
  kernel_rfl
end YkHead

set_option maxHeartbeats 1000000
/-! Texts of numbers. -/
namespace Yk
open PySem PySem.Spec PyProof.Rows L2 TL
/-- the text of a number -/
def nt (n : Nat) : Str := Str.ofString (toString ((n : Nat) : Int))
theorem tl_nt (n : Nat) : tl (nt n) = numL n := tl_num n
theorem cps_nt (n : Nat) : (nt n).cps.toList = numL n := tl_nt n
theorem str_eq {a b : Str} (h : tl a = tl b) : a = b := Str.ext' (Array.toList_inj.mp h)
theorem len_nt (n : Nat) : (nt n).length = (numL n).length := by rw [← tl_nt]; exact (Array.length_toList).symm
theorem numL_le {n k : Nat} (hk : 0 < k) (h : n < 10 ^ k) : (numL n).length ≤ k := by
  unfold numL
  rw [List.length_map]
  exact (Nat.length_toDigits_le_iff (by decide) hk).mpr h
theorem numL_ne (n : Nat) : numL n ≠ [] := by
  unfold numL
  intro e
  have h := List.map_eq_nil_iff.mp e
  have h2 : 0 < (Nat.toDigits 10 n).length := by
    by_cases hn : n < 10
    · rw [Nat.toDigits_of_lt_base hn]; simp
    · rw [Nat.toDigits_of_base_le (by decide) (by omega)]; simp
  rw [h] at h2
  exact absurd h2 (by decide)
theorem numL_snoc {n d : Nat} (hn : 0 < n) (hd : d < 10) : numL (n * 10 + d) = numL n ++ numL d := by
  unfold numL
  rw [← List.map_append, Nat.toDigits_append_toDigits (by decide) hn hd, Nat.mul_comm]
theorem numL_digit {d : Nat} (hd : d < 10) : numL d = [48 + d] := numL_lt hd
/-- filled up with noughts -/
def padL (k n : Nat) : List Nat := List.replicate (k - (numL n).length) 48 ++ numL n
theorem numL_split : ∀ (k : Nat) (q r : Nat), 0 < q → r < 10 ^ (k + 1) → numL (q * 10 ^ (k + 1) + r) = numL q ++ padL (k + 1) r
  | 0, q, r, hq, hr => by
    have hr' : r < 10 := by simpa using hr
    unfold padL
    rw [numL_digit hr', show 10 ^ (0 + 1) = 10 from rfl, numL_snoc hq hr', numL_digit hr']
    rfl
  | k + 1, q, r, hq, hr => by
    have h1 : r / 10 < 10 ^ (k + 1) := Nat.div_lt_of_lt_mul (by rw [Nat.pow_succ] at hr; omega)
    have hd : r % 10 < 10 := Nat.mod_lt _ (by decide)
    have e : q * 10 ^ (k + 1 + 1) + r = (q * 10 ^ (k + 1) + r / 10) * 10 + r % 10 := by
      rw [Nat.pow_succ 10 (k + 1), ← Nat.mul_assoc, Nat.add_mul, Nat.add_assoc, Nat.div_add_mod' r 10]
    have hp : 0 < q * 10 ^ (k + 1) + r / 10 := by
      have : 0 < q * 10 ^ (k + 1) := Nat.mul_pos hq (Nat.pow_pos (by decide))
      omega
    rw [e, numL_snoc hp hd, numL_split k q (r / 10) hq h1, List.append_assoc]
    congr 1
    unfold padL
    by_cases hz : r / 10 = 0
    · have er : r = r % 10 := by omega
      rw [hz, numL_digit (show 0 < 10 by decide), numL_digit hd]
      have e2 : numL r = [48 + r % 10] := by rw [er]; simpa using numL_digit hd
      rw [e2]
      have h3 : List.replicate (k + 1 - [48 + 0].length) 48 ++ [48 + 0] = List.replicate (k + 1) 48 := by
        show List.replicate (k + 1 - 1) 48 ++ [48] = _
        rw [show k + 1 - 1 = k by omega, ← List.replicate_succ']
      rw [h3]
      show List.replicate (k + 1) 48 ++ _ = List.replicate (k + 1 + 1 - 1) 48 ++ _
      rw [show k + 1 + 1 - 1 = k + 1 by omega]
    · have e2 : numL r = numL (r / 10) ++ numL (r % 10) := by
        rw [← numL_snoc (by omega) hd, Nat.div_add_mod' r 10]
      rw [e2, List.length_append, numL_digit hd, List.append_assoc]
      rw [show k + 1 + 1 - ((numL (r / 10)).length + [48 + r % 10].length) = k + 1 - (numL (r / 10)).length by show k + 1 + 1 - (_ + 1) = _; omega]
theorem numL_range {n c : Nat} (h : c ∈ numL n) : 48 ≤ c ∧ c ≤ 57 := by
  unfold numL at h
  obtain ⟨ch, hch, e⟩ := List.mem_map.mp h
  have r := digit_range (Nat.isDigit_of_mem_toDigits (by decide) (by decide) hch)
  rw [← e]
  exact r
theorem zfill_tl {n k : Nat} (h : (numL n).length ≤ k) : tl (Txt.zfill (nt n) (k : Int)) = padL k n := by
  unfold Txt.zfill
  rw [len_nt]
  split
  · rename_i hk
    have e : (numL n).length = k := by omega
    unfold padL
    rw [e, Nat.sub_self, tl_nt]
    rfl
  · unfold zfilled
    have hc : ∀ c, (nt n).cps[0]? = some c → c ≠ 43 ∧ c ≠ 45 := by
      intro c hc
      have h1 : c ∈ numL n := by
        rw [← tl_nt]
        rw [← Array.getElem?_toList] at hc
        exact List.mem_of_getElem? hc
      have := numL_range h1
      omega
    have hp : tl (Builtin.Str.padded (nt n) (Int.toNat (k : Int) - (numL n).length) 0 48) = padL k n := by
      unfold Builtin.Str.padded padL
      show (Array.replicate (k - (numL n).length) 48 ++ (nt n).cps ++ Array.replicate 0 48).toList = _
      rw [Array.toList_append, Array.toList_append, cps_nt]
      simp
    split
    · rename_i e
      exact absurd rfl (hc _ e).1
    · rename_i e
      exact absurd rfl (hc _ e).2
    · exact hp
theorem read_nt {n : Nat} (h : (nt n).length ≤ 4300) : PySem.intText? (nt n) = some (n : Int) := by
  have hd : PySem.NumText.AllDigits (nt n).cps.toList := by
    intro c hc
    rw [cps_nt] at hc
    exact numL_range hc
  have hne : (nt n).cps.toList ≠ [] := by
    rw [cps_nt]
    exact numL_ne n
  have e := PySem.intText_digits hd hne h
  rw [cps_nt] at e
  rw [e]
  unfold numL
  rw [PySem.W.KIN.val_back]
theorem ascii_nt (n : Nat) : Txt.isascii (nt n) = true := by
  unfold Txt.isascii
  rw [← Array.all_toList, List.all_eq_true]
  intro c hc
  rw [cps_nt] at hc
  have := numL_range hc
  exact decide_eq_true (by omega)
theorem uni_digit : ∀ d : Nat, d < 10 → Unicode.isDigit (48 + d) = true := by decide +kernel
theorem digit_nt (n : Nat) : Txt.isdigit (nt n) = true := by
  unfold Txt.isdigit
  rw [Bool.and_eq_true]
  refine ⟨decide_eq_true ?_, ?_⟩
  · rw [len_nt]
    exact List.length_pos_iff.mpr (numL_ne n)
  · rw [← Array.all_toList, List.all_eq_true]
    intro c hc
    rw [cps_nt] at hc
    have h := numL_range hc
    have := uni_digit (c - 48) (by omega)
    rw [show 48 + (c - 48) = c by omega] at this
    exact this
theorem numL_head : ∀ n : Nat, 0 < n → ∃ c r, numL n = c :: r ∧ c ≠ 48 := by
  intro n
  induction n using Nat.strongRecOn with
  | _ n ih =>
    intro hn
    by_cases h : n < 10
    · exact ⟨48 + n, [], numL_digit h, by omega⟩
    · obtain ⟨c, r, e, hc⟩ := ih (n / 10) (by omega) (by omega)
      refine ⟨c, r ++ numL (n % 10), ?_, hc⟩
      have h2 := numL_snoc (n := n / 10) (d := n % 10) (by omega) (Nat.mod_lt _ (by decide))
      rw [show n / 10 * 10 + n % 10 = n by omega, e] at h2
      exact h2
theorem nt_zero : nt 0 = Str.ofString "0" := by decide +kernel
theorem starts_nt {n : Nat} (hn : 0 < n) : Txt.startswith (nt n) (Str.ofString "0") = false := by
  unfold Txt.startswith
  obtain ⟨c, r, e, hc⟩ := numL_head n hn
  rw [Bool.and_eq_false_iff]
  right
  unfold Builtin.Str.subAt
  rw [show (Str.ofString "0") = ⟨#[48]⟩ by decide +kernel]
  rw [beq_eq_false_iff_ne]
  intro z
  have z2 := congrArg Array.toList z
  rw [Array.toList_extract] at z2
  rw [cps_nt, e] at z2
  simp at z2
  have z3 : List.take 1 (c :: r) = [48] := z2
  simp at z3
  exact hc z3
/-- the text of an amount -/
def amTxt (q : Rat) : Str := if q.den = 1 then nt q.num.toNat else nt q.num.toNat ++ Str.ofString "/" ++ nt q.den
theorem slash_nt (n : Nat) : 47 ∉ tl (nt n) := fun h => by rw [tl_nt] at h; have := numL_range h; omega
theorem slash : Str.ofString "/" = ⟨#[47]⟩ := by decide +kernel
theorem part_nt (n : Nat) : Txt.partition (nt n) (Str.ofString "/") = (nt n, Str.empty, Str.empty) := partition_none (y := Str.ofString "/") (s := 47) (S := []) (by rw [slash]) (slash_nt n)
theorem part_am (n d : Nat) : Txt.partition (nt n ++ Str.ofString "/" ++ nt d) (Str.ofString "/") = (nt n, Str.ofString "/", nt d) := partition_app (y := Str.ofString "/") (s := 47) (S := []) (by rw [slash]) (slash_nt n)
theorem joinL_nil : ∀ l : List (List Nat), joinL [] l = l.flatten
  | [] => rfl
  | [p] => by simp [joinL]
  | p :: q :: r => by
    show p ++ ([] ++ joinL [] (q :: r)) = _
    rw [joinL_nil (q :: r)]
    simp
theorem tl_join0 (parts : List Str) : tl (Txt.join Str.empty parts) = (parts.map tl).flatten := by
  rw [join_eq, tl_join]
  exact joinL_nil _
theorem len_sum : ∀ parts : List Str, (parts.map (·.length)).sum = (parts.map tl).flatten.length
  | [] => rfl
  | p :: r => by
    show p.length + (r.map (·.length)).sum = (tl p ++ (r.map tl).flatten).length
    rw [List.length_append, len_sum r]
    congr 1
theorem bits_lt {n b : Nat} (h : n < 2 ^ b) : n < 10 ^ b := Nat.lt_of_lt_of_le h (Nat.pow_le_pow_left (by decide) b)
theorem log_lt {n b : Nat} (hb : 0 < b) (h : n < 2 ^ b) : n.log2 < b := PySem.Flt.log2_lt_of hb h
end Yk

set_option maxHeartbeats 1000000
namespace Yk
open PySem PySem.Spec PyProof.Rows L2

section
variable {P : Program} {w : World} {K : PySem.W.Frag} {mg : Str → Option Value} {base : Heap} {f : Addr} {fd : FuncData}
end
end Yk

set_option maxHeartbeats 1000000
namespace Yk
open PySem PySem.Spec PyProof.Rows L2

section
variable {P : Program} {w : World} {K : PySem.W.Frag} {mg : Str → Option Value} {base : Heap} {f : Addr} {fd : FuncData}
def spProd (K : PySem.W.Frag) : Sp := fun vs H Q _ => ∃ p q : Rat, vs = [.int p.num, .int (p.den : Int), .int q.num, .int (q.den : Int)] ∧ Sz 4000 p ∧ Sz 4000 q ∧ RetAm K H Q (p * q)
def spTimes (K : PySem.W.Frag) : Sp := fun vs H Q _ => ∃ v1 v2 p q, vs = [v1, v2] ∧ Am K H v1 p ∧ Am K H v2 q ∧ Sz 4000 p ∧ Sz 4000 q ∧ RetAm K H Q (p * q)
def spOver (K : PySem.W.Frag) : Sp := fun vs H Q _ => ∃ v1 v2 p q, vs = [v1, v2] ∧ Am K H v1 p ∧ Am K H v2 q ∧ 0 < q ∧ Sz 4000 p ∧ Sz 4000 q ∧ RetAm K H Q (p / q)
def cmpQ (p q : Rat) : Int := if p < q then -1 else if q < p then 1 else 0
def spCompare (K : PySem.W.Frag) : Sp := fun vs H Q _ => ∃ v1 v2 p q, vs = [v1, v2] ∧ Am K H v1 p ∧ Am K H v2 q ∧ Sz 4000 p ∧ Sz 4000 q ∧ Q (.int (cmpQ p q)) H
def spMinus (K : PySem.W.Frag) : Sp := fun vs H Q _ => ∃ v1 v2 p q, vs = [v1, v2] ∧ Am K H v1 p ∧ Am K H v2 q ∧ q ≤ p ∧ Sz 4000 p ∧ Sz 4000 q ∧ RetAm K H Q (p - q)
/-- the sum of a row, from the left -/
def sumQ (qs : List Rat) : Rat := qs.foldl (· + ·) 0
theorem sumQ_take {qs : List Rat} {i : Nat} {q : Rat} (h : qs[i]? = some q) : sumQ (qs.take (i + 1)) = sumQ (qs.take i) + q := by
  obtain ⟨hl, e⟩ := List.getElem?_eq_some_iff.mp h
  unfold sumQ
  rw [← List.take_append_getElem hl, List.foldl_append, e]
  rfl
theorem sumQ_sz {m : Nat} : ∀ {qs : List Rat} (i : Nat), (∀ q ∈ qs, Sz m q) → i ≤ qs.length → Sz (1 + i * (m + 1)) (sumQ (qs.take i))
  | qs, 0, _, _ => by
    rw [List.take_zero]
    refine ⟨Nat.two_pow_pos _, ?_⟩
    rw [Nat.zero_mul]
    decide
  | qs, i + 1, h, hi => by
    have hq : qs[i]? = some qs[i] := List.getElem?_eq_getElem hi
    rw [sumQ_take hq]
    have h1 := sumQ_sz i h (by omega)
    have h2 := h qs[i] (List.getElem_mem hi)
    refine (sz_add h1 h2).mono ?_
    rw [Nat.add_mul]
    omega
def spPlusT (K : PySem.W.Frag) : Sp := fun vs H Q _ => ∃ t xs qs m, vs = [V.ref t] ∧ SqT K H t xs ∧ Ams K H xs qs ∧ (∀ q ∈ qs, Sz m q) ∧ m ≤ 4000 ∧ 1 + qs.length * (m + 1) ≤ 4000 ∧ RetAm K H Q (sumQ qs)
def spPlus (K : PySem.W.Frag) : Sp := fun vs H Q _ => ∃ qs m, Ams K H vs qs ∧ (∀ q ∈ qs, Sz m q) ∧ m ≤ 4000 ∧ 1 + qs.length * (m + 1) ≤ 4000 ∧ RetAm K H Q (sumQ qs)
end
end Yk

set_option maxHeartbeats 1000000
namespace Yk
open PySem PySem.Spec PyProof.Rows L2

section
variable {P : Program} {w : World} {K : PySem.W.Frag} {mg : Str → Option Value} {base : Heap} {f : Addr} {fd : FuncData}
def spMinT (F : Rat → List Rat → Rat) (K : PySem.W.Frag) : Sp := fun vs H Q _ => ∃ v0 q0 t xs qs, vs = [v0, V.ref t] ∧ Am K H v0 q0 ∧ Sz 4000 q0 ∧ SqT K H t xs ∧ Ams K H xs qs ∧ (∀ q ∈ qs, Sz 4000 q) ∧ RetAm K H Q (F q0 qs)
def spMin (F : Rat → List Rat → Rat) (K : PySem.W.Frag) : Sp := fun vs H Q _ => ∃ q0 qs, Ams K H vs (q0 :: qs) ∧ (∀ q ∈ q0 :: qs, Sz 4000 q) ∧ qs.length ≤ 4000 ∧ RetAm K H Q (F q0 qs)
theorem spMin_imp {F : Rat → List Rat → Rat} : ∀ vs H Q E, spMin F K vs H Q E → ∃ ws rest, vs = ws ++ rest ∧ ws.length = (["first"] : List Str).length ∧ rest.length ≤ sizeLine ∧ ∀ p, H p = none → spMinT F K (ws ++ [V.ref p]) (upd H p (.tup rest)) Q E := by
  rintro vs H Q E ⟨q0, qs, h1, h2, h3, k⟩
  cases vs with
  | nil => exact absurd h1.1 (by simp)
  | cons v0 rest =>
    have hl : rest.length = qs.length := by simpa using h1.1
    have h4 : Ams K H rest qs := ⟨hl, fun i v q a b => h1.2 (i + 1) v q (by simpa using a) (by simpa using b)⟩
    refine ⟨[v0], rest, rfl, rfl, Nat.le_trans (by omega : rest.length ≤ 4000) (by decide), fun p hp => ⟨v0, q0, p, rest, qs, rfl, (h1.2 0 v0 q0 rfl rfl).x0 (Ext.refl.new hp), h2 q0 List.mem_cons_self, tupS, h4.x0 (Ext.refl.new hp), fun q hq => h2 q (List.mem_cons_of_mem _ hq), fun v H' e a => k v H' ((Ext.refl.new hp).trans e) a⟩⟩
theorem cmp_lt (p q : Rat) : cmpQ p q < 0 ↔ p < q := by
  unfold cmpQ
  by_cases h : p < q
  · rw [if_pos h]; exact ⟨fun _ => h, fun _ => by decide⟩
  · rw [if_neg h]
    refine ⟨fun z => ?_, fun z => absurd z h⟩
    split at z <;> omega
theorem cmp_gt (p q : Rat) : 0 < cmpQ p q ↔ q < p := by
  unfold cmpQ
  by_cases h : p < q
  · rw [if_pos h]
    exact ⟨fun z => by omega, fun z => absurd (Rat.le_of_lt h) (Rat.not_le.mpr z)⟩
  · rw [if_neg h]
    by_cases h2 : q < p
    · rw [if_pos h2]; exact ⟨fun _ => h2, fun _ => by decide⟩
    · rw [if_neg h2]; exact ⟨fun z => by omega, fun z => absurd z h2⟩
def spPair (K : PySem.W.Frag) : Sp := fun vs H Q _ => ∃ a b : Nat, vs = [.int (a : Int), .int (b : Int)] ∧ 0 < b ∧ a < 2 ^ 8900 ∧ b < 2 ^ 8900 ∧ RetAm K H Q (mkRat (a : Int) b)
end
end Yk

set_option maxHeartbeats 1000000
namespace Yk
open PySem PySem.Spec PyProof.Rows L2

section
variable {P : Program} {w : World} {K : PySem.W.Frag} {mg : Str → Option Value} {base : Heap} {f : Addr} {fd : FuncData}
theorem szd {n : Nat} {q : Rat} (h : Sz n q) : (q.den : Int).natAbs < 2 ^ n := h.2
theorem mulz {m n : Nat} {i j : Int} (hi : i.natAbs < 2 ^ m) (hj : j.natAbs < 2 ^ n) : (i * j).natAbs < 2 ^ (m + n) := wide_lt hi hj
/-- amounts are not below nought: their first numbers are natural -/
theorem num_nat {q : Rat} (h : 0 ≤ q) : q.num = ((q.num.toNat : Nat) : Int) := (Int.toNat_of_nonneg (num_nn h)).symm
theorem pos_num {q : Rat} (h : 0 < q) : 0 < q.num.toNat := by have := num_pos' h; omega
theorem mk_add (p q : Rat) : mkRat (p.num * q.den + q.num * p.den) (p.den * q.den) = p + q := by rw [Rat.add_def, Rat.normalize_eq_mkRat]
theorem mk_mul (p q : Rat) : mkRat (p.num * q.num) (p.den * q.den) = p * q := by rw [Rat.mul_def, Rat.normalize_eq_mkRat]
def spMore (K : PySem.W.Frag) : Sp := fun vs H Q _ => ∃ v1 v2 p q, vs = [v1, v2] ∧ Am K H v1 p ∧ Am K H v2 q ∧ Sz 4000 p ∧ Sz 4000 q ∧ Q (.bl (decide (q < p))) H
/-- two amounts, of at most 2000 bits, to one -/
def sp2 (ok : Rat → Rat → Prop) (F : Rat → Rat → Rat) (K : PySem.W.Frag) : Sp := fun vs H Q _ => ∃ v1 v2 p q, vs = [v1, v2] ∧ Am K H v1 p ∧ Am K H v2 q ∧ Sz 4000 p ∧ Sz 4000 q ∧ 0 ≤ p ∧ 0 ≤ q ∧ ok p q ∧ RetAm K H Q (F p q)
theorem mk_quot {p q : Rat} (hq : 0 < q) : mkRat (p.num * q.den) (p.den * q.num.toNat) = p / q := by
  obtain ⟨i1, i2⟩ := inv_parts hq
  have e : q⁻¹.den = q.num.toNat := by omega
  rw [Rat.div_def, ← mk_mul, i1, e]
end
end Yk

set_option maxHeartbeats 1000000
namespace Yk
open PySem PySem.Spec PyProof.Rows L2

section
variable {P : Program} {w : World} {K : PySem.W.Frag} {mg : Str → Option Value} {base : Heap} {f : Addr} {fd : FuncData}
def lmin (p q : Rat) : Rat := if q < p then q else p
def lmax (p q : Rat) : Rat := if q < p then p else q
def spOrder (K : PySem.W.Frag) : Sp := fun vs H Q _ => ∃ v1 v2 p q, vs = [v1, v2] ∧ Am K H v1 p ∧ Am K H v2 q ∧ Sz 4000 p ∧ Sz 4000 q ∧ Q (.int (cmpQ p q)) H
theorem sumQ_nn : ∀ {qs : List Rat} {z : Rat}, 0 ≤ z → (∀ q ∈ qs, 0 ≤ q) → 0 ≤ qs.foldl (· + ·) z
  | [], z, h, _ => h
  | q :: r, z, h, hq => sumQ_nn (qs := r) (z := z + q) (Rat.add_nonneg h (hq q List.mem_cons_self)) fun x hx => hq x (List.mem_cons_of_mem _ hx)
def spSum (K : PySem.W.Frag) : Sp := fun vs H Q _ => ∃ t xs qs m, vs = [V.ref t] ∧ SqL K H t xs ∧ Ams K H xs qs ∧ (∀ q ∈ qs, Sz m q) ∧ (∀ q ∈ qs, 0 ≤ q) ∧ m ≤ 4000 ∧ 1 + qs.length * (m + 1) ≤ 4000 ∧ RetAm K H Q (sumQ qs)
end
end Yk

set_option maxHeartbeats 2000000
namespace Yk
open PySem PySem.Spec PyProof.Rows L2

section
variable {P : Program} {w : World} {K : PySem.W.Frag} {mg : Str → Option Value} {base : Heap} {f : Addr} {fd : FuncData}
theorem lst_upd {K : PySem.W.Frag} {H : Hp} {a b : Addr} {o : HO} {xs l : List V} (h : SqL K H a xs) (hb : H b = some (.lst l)) (hd : xs ≠ l) : SqL K (upd H b o) a xs := by
  rcases h with (h | ⟨u, h⟩) | h
  · exact .inl (.inl (by rw [upd_ne (fun z => hd (by rw [z, hb] at h; cases h; rfl))]; exact h))
  · exact .inl (.inr ⟨u, by rw [upd_ne (fun z => by rw [z, hb] at h; cases h)]; exact h⟩)
  · exact .inr h
theorem ns_ne (ns : List Int) (it : Addr) (l : List V) : ns.map V.int ≠ .ref it :: l := by
  cases ns with
  | nil => intro h; cases h
  | cons n r => intro h; cases h
theorem cpow {i : Int} {j : Int} (h0 : 0 ≤ j) (h1 : j ≤ 1000000) (h : i.natAbs < 2 ^ 64) : CPow i j := ⟨h0, h1, h⟩
theorem cdivc (i : Int) : CDivW i 97 := ⟨by decide, by decide +kernel⟩
def spDraw (K : PySem.W.Frag) : Sp := fun vs H Q _ => ∃ (b : Bag) (n : Int), vs = [.ref b.a, .int n] ∧ 0 < n ∧ n < 2 ^ 400 ∧ BagAt K H b ∧ ∀ (x : Int) H', 0 ≤ x → x < n → BagAt K H' b → Ext [b.a] H H' → Q (.int x) H'
theorem at_map {ns : List Int} {i : Nat} (h : i < ns.length) : atI (ns.map V.int) (i : Int) = some (.int ns[i]) := atI_nat (by rw [List.getElem?_map, List.getElem?_eq_getElem h] <;> rfl)
theorem bag_ex {K : PySem.W.Frag} {H : Hp} {b it : Addr} {ns : List Int} {pos : Nat} {rest seed cnt : Int} (hb : H b = some (.lst [.ref it, .int (pos : Int), .int rest, .int seed, .int cnt])) (hi : SqL K H it (ns.map V.int)) (hns : ns.length ≤ 63)
    (hp : pos ≤ ns.length) (hr : 0 ≤ rest) (h0 : 0 ≤ seed) (h1 : seed < 2147483629) : BagAt K H ⟨b, it, ns⟩ := ⟨_, hb, hi, hns, pos, rest, seed, cnt, rfl, hp, hr, h0, h1⟩
theorem modI (a : Int) {n : Int} (h : 0 < n) : 0 ≤ a % n ∧ a % n < n := ⟨Int.emod_nonneg a (by omega), Int.emod_lt_of_pos a h⟩
end
end Yk

set_option maxHeartbeats 2000000
namespace Yk
open PySem PySem.Spec PyProof.Rows L2

section
variable {P : Program} {w : World} {K : PySem.W.Frag} {mg : Str → Option Value} {base : Heap} {f : Addr} {fd : FuncData}
theorem cut_all {xs : List V} (h : xs.length ≤ 63) : cutV xs none (some 63) = xs := by
  unfold cutV
  rw [show HT.sIx xs.length 0 none = 0 from rfl, show HT.sIx xs.length xs.length (some 63) = min 63 xs.length from HT.sIx_nat _ _ 63, List.drop_zero, Nat.min_eq_right h]
  simp
def spBag (K : PySem.W.Frag) : Sp := fun vs H Q _ => ∃ (a : Addr) (ns : List Int), vs = [.ref a] ∧ SqL K H a (ns.map V.int) ∧ ns.length ≤ 63 ∧ ∀ (b : Bag) H', H b.a = none → Ext [] H H' → BagAt K H' b → Q (.ref b.a) H'
/-- one of a row of things: what is told of all of them is told of it -/
def spOf (K : PySem.W.Frag) : Sp := fun vs H Q _ => ∃ (b : Bag) (l : Addr) (xs : List V), vs = [.ref b.a, .ref l] ∧ BagAt K H b ∧ SqL K H l xs ∧ b.a ≠ l ∧ 0 < xs.length ∧ xs.length ≤ 4000 ∧ ∀ (i : Nat) (x : V) H', xs[i]? = some x → BagAt K H' b → Ext [b.a] H H' → Q x H'
abbrev s_law_of : Stmt := top 10
theorem c_law_of : FnScope ["_law_bag_here", "_law_things"] ["_law_bag_here", "_law_things"] (defScope s_law_of) := ⟨rfl, rfl, rfl, by decide +kernel, rfl, by decide +kernel, by decide +kernel⟩
theorem f_law_of (F : FunD K "_law_of" "_law_of" (defArgs s_law_of) (defBody s_law_of) (defScope s_law_of) [] [] f fd) (hm : mg "_law_of" = some (.ref f)) (T : Bt mg) (F_law_draw : Fn P w K mg base 1 "_law_draw" (spDraw K)) : Fn P w K mg base 2 "_law_of" (spOf K) := by
  refine fn_def F hm c_law_of (fun vs H Q E h => ?_) (fun _ _ _ _ _ _ us hl => match us, hl with | [_, _], _ => rfl) (fun cdv A outer s H vs Q E hr h => ?_)
  · obtain ⟨b, l, xs, rfl, _⟩ := h
    rfl
  · obtain ⟨b, l, xs, rfl, hb, hl, hne, h0, h4, k⟩ := h
    have nd := c_law_of.nd
    refine ⟨_, (pss_one (ps_ret (pe_ix ix_list (pv 1) (pe_fn F_law_draw (hr.mono (by decide)) (pa_cons (pv 0) (pa_cons (pe_callB cr_len (by rfl) T.len (by decide +kernel) (pa_cons (pv 1) pa_nil)) pa_nil))) (fun _ _ => rfl)))), ?_⟩
    show (_ : TS) _ [some _, some _] _
    try dsimp only [cxOf, Cx.nox]
    walk_at "go"
    refine ⟨b, _, rfl, by omega, Int.lt_of_le_of_lt (by omega : (xs.length : Int) ≤ 4000) (by decide), hb, fun x H' x0 x1 hb' e => ?_⟩
    have hl' : SqL K H' l xs := lstX e hl (by simpa using fun z => hne z.symm)
    have hx : x.toNat < xs.length := by omega
    refine r_ixL hl' (v := xs[x.toNat]) ?_ (k x.toNat _ H' (List.getElem?_eq_getElem hx) hb' e)
    have e2 : x = ((x.toNat : Nat) : Int) := by omega
    exact at_of e2 (List.getElem?_eq_getElem hx)
end
end Yk

set_option maxHeartbeats 4000000
namespace Yk
open PySem PySem.Spec PyProof.Rows L2

section
variable {P : Program} {w : World} {K : PySem.W.Frag} {mg : Str → Option Value} {base : Heap} {f : Addr} {fd : FuncData}
theorem of_am {K : PySem.W.Frag} {H : Hp} {b : Bag} {l : Addr} {xs : List V} {qs : List Rat} {Q : VK} {E : XK} (hb : BagAt K H b) (hl : SqL K H l xs) (hne : b.a ≠ l) (ha : Ams K H xs qs) (h0 : 0 < qs.length) (h4 : qs.length ≤ 4000)
    (k : ∀ v q H', q ∈ qs → Am K H' v q → BagAt K H' b → Ext [b.a] H H' → Q v H') : spOf K [.ref b.a, .ref l] H Q E :=
  ⟨b, l, xs, rfl, hb, hl, hne, by rw [ha.1]; exact h0, by rw [ha.1]; exact h4, fun i x H' hx hb' e => by
    obtain ⟨q, hq, hm⟩ := ha.at_ hx
    exact k x q H' (List.mem_of_getElem? hq) (hm.b hb e) hb' e⟩
theorem mulp {i j a b : Int} (i0 : 0 ≤ i) (i1 : i < a) (j0 : 0 ≤ j) (j1 : j < b) (ha : a ≤ 2 ^ 400) (hb : b ≤ 2 ^ 400) : CMulW i j := by
  refine cmul (m := 401) (n := 401) ?_ ?_ (by decide) (by decide) (by decide)
  · have : (2 : Nat) ^ 400 < 2 ^ 401 := by decide
    have : ((2 : Nat) ^ 400 : Int) = 2 ^ 400 := by norm_cast
    omega
  · have : (2 : Nat) ^ 400 < 2 ^ 401 := by decide
    have : ((2 : Nat) ^ 400 : Int) = 2 ^ 400 := by norm_cast
    omega
theorem e10 : (10 : Int) ^ Int.toNat 10 = 10000000000 := by decide
theorem e4 : (10 : Int) ^ Int.toNat 4 = 10000 := by decide
theorem e9 : (10 : Int) ^ Int.toNat 9 = 1000000000 := by decide
def spGreat (K : PySem.W.Frag) : Sp := fun vs H Q _ => ∃ b, vs = [.ref b.a] ∧ BagAt K H b ∧ ∀ (x : Int) H', 0 ≤ x → x < 2 ^ 114 → BagAt K H' b → Ext [b.a] H H' → Q (.int x) H'
theorem pair_am {a b : Nat} {m : Nat} (ha : a < 2 ^ m) (hb : 0 < b) (hb2 : b < 2 ^ m) : Sz m (mkRat (a : Int) b) ∧ 0 ≤ mkRat (a : Int) b := ⟨sz_mk hb rfl (by simpa using ha) hb2, mk_nn a b⟩
def spAmt (K : PySem.W.Frag) : Sp := fun vs H Q _ => ∃ b, vs = [.ref b.a] ∧ BagAt K H b ∧ ∀ v q H', Am K H' v q → 0 ≤ q → Sz 114 q → BagAt K H' b → Ext [b.a] H H' → Q v H'
/-- a bit: a whole number of twelfths, at most 12 -/
def spBit (K : PySem.W.Frag) : Sp := fun vs H Q _ => ∃ b, vs = [.ref b.a] ∧ BagAt K H b ∧ ∀ v (n d : Nat) H', n ≤ 12 → 0 < d → d ∣ 12 → Am K H' v (mkRat (n : Int) d) → BagAt K H' b → Ext [b.a] H H' → Q v H'
theorem spBit_amt {H : Hp} {b : Bag} {Q : VK} {E : XK} (hb : BagAt K H b) (k : ∀ v q H', Am K H' v q → 0 ≤ q → Sz 114 q → BagAt K H' b → Ext [b.a] H H' → Q v H') : spBit K [.ref b.a] H Q E :=
  ⟨b, rfl, hb, fun v n d H' hn d0 hd a b' e => by
    obtain ⟨z1, z2⟩ := pair_am (m := 114) (Nat.lt_of_le_of_lt hn (by decide)) d0 (Nat.lt_of_le_of_lt (Nat.le_of_dvd (by decide) hd) (by decide))
    exact k v _ H' a z2 z1 b' e⟩
theorem sz_lit {n : Int} {d m : Nat} (hd : d ≠ 0) (hc : n.natAbs.Coprime d) (h1 : n.natAbs < 2 ^ m) (h2 : d < 2 ^ m) : Sz m ⟨n, d, hd, hc⟩ := ⟨h1, h2⟩
theorem nn_lit {n : Int} {d : Nat} (hd : d ≠ 0) (hc : n.natAbs.Coprime d) (h : 0 ≤ n) : (0 : Rat) ≤ ⟨n, d, hd, hc⟩ := Rat.num_nonneg.mp h
def nine : List Rat := [⟨0, 1, by decide, by decide⟩, ⟨1, 1, by decide, by decide⟩, ⟨1000, 1, by decide, by decide⟩, ⟨1, 12, by decide, by decide⟩, ⟨999, 1, by decide, by decide⟩, ⟨1001, 1, by decide, by decide⟩, ⟨12001, 12, by decide, by decide⟩, ⟨1, 13, by decide, by decide⟩, ⟨2, 1, by decide, by decide⟩]
theorem nine_all : ∀ q ∈ nine, 0 ≤ q ∧ Sz 114 q := by
  intro q hq
  unfold nine at hq
  simp only [List.mem_cons, List.not_mem_nil, or_false] at hq
  rcases hq with rfl | rfl | rfl | rfl | rfl | rfl | rfl | rfl | rfl <;> exact ⟨nn_lit _ _ (by decide), sz_lit _ _ (by decide) (by decide)⟩
end
end Yk

set_option maxHeartbeats 4000000
namespace Yk
open PySem PySem.Spec PyProof.Rows L2

section
variable {P : Program} {w : World} {K : PySem.W.Frag} {mg : Str → Option Value} {base : Heap} {f : Addr} {fd : FuncData}
theorem perm_erase : ∀ {xs : List V} {i : Nat} (h : i < xs.length), (xs[i] :: xs.eraseIdx i).Perm xs
  | a :: r, 0, _ => List.Perm.refl _
  | a :: r, i + 1, h => ((List.Perm.swap a _ _)).trans ((perm_erase (xs := r) (i := i) (by simpa using h)).cons a)
/-- a new list with the same things -/
def spMixed (K : PySem.W.Frag) : Sp := fun vs H Q _ => ∃ (b : Bag) (l : Addr) (xs : List V), vs = [.ref b.a, .ref l] ∧ BagAt K H b ∧ SqL K H l xs ∧ b.a ≠ l ∧ xs.length ≤ 4000 ∧ ∀ (p : Addr) (ys : List V) H', ys.Perm xs → H p = none → H' p = some (.lst ys) → BagAt K H' b → Ext [b.a] H H' → Q (.ref p) H'
end
end Yk

set_option maxHeartbeats 4000000
namespace Yk
open PySem PySem.Spec PyProof.Rows L2

section
variable {P : Program} {w : World} {K : PySem.W.Frag} {mg : Str → Option Value} {base : Heap} {f : Addr} {fd : FuncData}
/-- two rows of one length, from three to six -/
theorem row_cases {C : List V → List Rat → Prop} {xs : List V} {qs : List Rat} (hl : xs.length = qs.length) (h3 : 3 ≤ qs.length) (h6 : qs.length ≤ 6)
    (c3 : ∀ v0 v1 v2 q0 q1 q2, C [v0, v1, v2] [q0, q1, q2]) (c4 : ∀ v0 v1 v2 v3 q0 q1 q2 q3, C [v0, v1, v2, v3] [q0, q1, q2, q3])
    (c5 : ∀ v0 v1 v2 v3 v4 q0 q1 q2 q3 q4, C [v0, v1, v2, v3, v4] [q0, q1, q2, q3, q4]) (c6 : ∀ v0 v1 v2 v3 v4 v5 q0 q1 q2 q3 q4 q5, C [v0, v1, v2, v3, v4, v5] [q0, q1, q2, q3, q4, q5]) : C xs qs := by
  match xs, qs, hl, h3, h6 with
  | [], qs, h, h3, _ => simp at h; omega
  | [_], qs, h, h3, _ => simp at h; omega
  | [_, _], qs, h, h3, _ => simp at h; omega
  | [v0, v1, v2], [q0, q1, q2], _, _, _ => exact c3 ..
  | [v0, v1, v2, v3], [q0, q1, q2, q3], _, _, _ => exact c4 ..
  | [v0, v1, v2, v3, v4], [q0, q1, q2, q3, q4], _, _, _ => exact c5 ..
  | [v0, v1, v2, v3, v4, v5], [q0, q1, q2, q3, q4, q5], _, _, _ => exact c6 ..
  | _ :: _ :: _ :: _ :: _ :: _ :: _ :: _, _ :: _ :: _ :: _ :: _ :: _ :: _ :: _, _, _, h => simp at h; try omega
def spSums (K : PySem.W.Frag) : Sp := fun vs H Q _ => ∃ r xs qs, vs = [V.ref r] ∧ SqL K H r xs ∧ Ams K H xs qs ∧ 3 ≤ qs.length ∧ qs.length ≤ 6 ∧ (∀ q ∈ qs, Sz 114 q) ∧ RetAm K H Q (sumQ qs)
def spEnds (K : PySem.W.Frag) : Sp := fun vs H Q _ => ∃ r xs q0 qs, vs = [V.ref r] ∧ SqL K H r xs ∧ Ams K H xs (q0 :: qs) ∧ 3 ≤ (q0 :: qs).length ∧ (q0 :: qs).length ≤ 6 ∧ (∀ q ∈ q0 :: qs, Sz 114 q) ∧
  ∀ p v1 v2 H', H p = none → H' p = some (.lst [v1, v2]) → Am K H' v1 (minQ q0 qs) → Am K H' v2 (maxQ q0 qs) → Ext [] H H' → Q (.ref p) H'
def endsK (K : PySem.W.Frag) (H : Hp) (Q : VK) (qs : List Rat) : Prop := ∀ p v1 v2 H', H p = none → H' p = some (.lst [v1, v2]) → Am K H' v1 (minQ (qs.headD 0) qs.tail) → Am K H' v2 (maxQ (qs.headD 0) qs.tail) → Ext [] H H' → Q (.ref p) H'
end
end Yk

set_option maxHeartbeats 4000000
namespace Yk
open PySem PySem.Spec PyProof.Rows L2

section
variable {P : Program} {w : World} {K : PySem.W.Frag} {mg : Str → Option Value} {base : Heap} {f : Addr} {fd : FuncData}
/-! rows by their sizes, in any order -/
inductive Szs : Nat → List Rat → Prop where
  | nil : Szs 0 []
  | cons {m B : Nat} {q : Rat} {ps : List Rat} (h : Sz m q) (r : Szs B ps) : Szs (B + (m + 1)) (q :: ps)
theorem Szs.perm {l l' : List Rat} (p : l.Perm l') : ∀ {B : Nat}, Szs B l → Szs B l' := by
  induction p with
  | nil => exact fun h => h
  | cons x _ ih =>
    intro B h
    cases h with
    | cons h r => exact .cons h (ih r)
  | swap x y l =>
    intro B h
    cases h with
    | cons h r =>
      cases r with
      | cons h2 r =>
        rename_i m1 m2 B2
        have := Szs.cons h2 (Szs.cons h r)
        rw [show B2 + (m2 + 1) + (m1 + 1) = B2 + (m1 + 1) + (m2 + 1) by omega]
        exact this
  | trans _ _ ih1 ih2 => exact fun h => ih2 (ih1 h)
theorem Szs.all : ∀ {l : List Rat} {m : Nat}, (∀ q ∈ l, Sz m q) → Szs (l.length * (m + 1)) l
  | [], m, _ => by simpa using Szs.nil
  | q :: r, m, h => by
    have := Szs.cons (h q List.mem_cons_self) (Szs.all (l := r) (m := m) fun x hx => h x (List.mem_cons_of_mem _ hx))
    rw [List.length_cons, Nat.add_mul, Nat.one_mul]
    exact this
def opR (g : Rat → Rat → Rat) (z : Rat) (l : List Rat) : Rat := l.foldr g z
theorem opR_perm {g : Rat → Rat → Rat} {z : Rat} (hg : ∀ a b c, g a (g b c) = g b (g a c)) {l l' : List Rat} (p : l.Perm l') : opR g z l = opR g z l' := by
  induction p with
  | nil => rfl
  | cons x _ ih => exact congrArg (g x) ih
  | swap x y l => exact hg _ _ _
  | trans _ _ h1 h2 => exact h1.trans h2
theorem sumQ_R (l : List Rat) : sumQ l = opR (· + ·) 0 l := by
  have h : ∀ (l : List Rat) (z : Rat), l.foldl (· + ·) z = z + opR (· + ·) 0 l := by
    intro l
    induction l with
    | nil => intro z; show z = z + 0; rw [Rat.add_zero]
    | cons a r ih =>
      intro z
      show r.foldl (· + ·) (z + a) = z + (a + opR (· + ·) 0 r)
      rw [ih, Rat.add_assoc]
  unfold sumQ
  rw [h, Rat.zero_add]
theorem sumQ_perm {l l' : List Rat} (p : l.Perm l') : sumQ l = sumQ l' := by
  rw [sumQ_R, sumQ_R]
  exact opR_perm (fun a b c => by rw [← Rat.add_assoc, Rat.add_comm a b, Rat.add_assoc]) p
def prodQ (qs : List Rat) : Rat := qs.foldl (· * ·) 1
theorem prodQ_R (l : List Rat) : prodQ l = opR (· * ·) 1 l := by
  have h : ∀ (l : List Rat) (z : Rat), l.foldl (· * ·) z = z * opR (· * ·) 1 l := by
    intro l
    induction l with
    | nil => intro z; show z = z * 1; rw [Rat.mul_one]
    | cons a r ih =>
      intro z
      show r.foldl (· * ·) (z * a) = z * (a * opR (· * ·) 1 r)
      rw [ih, Rat.mul_assoc]
  unfold prodQ
  rw [h, Rat.one_mul]
theorem Ams.erase {H : Hp} {xs : List V} {qs : List Rat} (h : Ams K H xs qs) (i : Nat) : Ams K H (xs.eraseIdx i) (qs.eraseIdx i) := by
  refine ⟨by rw [List.length_eraseIdx, List.length_eraseIdx, h.1], fun j v q a b => ?_⟩
  rw [List.getElem?_eraseIdx] at a b
  split at a
  · rename_i hj
    rw [if_pos hj] at b
    exact h.2 j v q a b
  · rename_i hj
    rw [if_neg hj] at b
    exact h.2 (j + 1) v q a b
theorem Ams.app {H : Hp} {xs ys : List V} {qs rs : List Rat} (h : Ams K H xs qs) (r : Ams K H ys rs) : Ams K H (xs ++ ys) (qs ++ rs) := by
  refine ⟨by rw [List.length_append, List.length_append, h.1, r.1], fun j v q a b => ?_⟩
  by_cases hj : j < xs.length
  · rw [List.getElem?_append_left hj] at a
    rw [List.getElem?_append_left (by rw [← h.1]; exact hj)] at b
    exact h.2 j v q a b
  · rw [List.getElem?_append_right (by omega)] at a
    rw [List.getElem?_append_right (by rw [← h.1]; omega), ← h.1] at b
    exact r.2 _ v q a b
theorem Ams.take {H : Hp} {xs : List V} {qs : List Rat} (h : Ams K H xs qs) (n : Nat) : Ams K H (xs.take n) (qs.take n) := by
  refine ⟨by rw [List.length_take, List.length_take, h.1], fun j v q a b => ?_⟩
  rw [List.getElem?_take] at a b
  split at a
  · rename_i hj
    rw [if_pos hj] at b
    exact h.2 j v q a b
  · cases a
theorem Ams.drop {H : Hp} {xs : List V} {qs : List Rat} (h : Ams K H xs qs) (n : Nat) : Ams K H (xs.drop n) (qs.drop n) := by
  refine ⟨by rw [List.length_drop, List.length_drop, h.1], fun j v q a b => ?_⟩
  rw [List.getElem?_drop] at a b
  exact h.2 _ v q a b
theorem permR : ∀ {xs : List Rat} {i : Nat} (h : i < xs.length), (xs[i] :: xs.eraseIdx i).Perm xs
  | a :: r, 0, _ => List.Perm.refl _
  | a :: r, i + 1, h => ((List.Perm.swap a _ _)).trans ((permR (xs := r) (i := i) (by simpa using h)).cons a)
theorem permI (xs : List Rat) (z : Rat) (k : Nat) : (xs.take k ++ [z] ++ xs.drop k).Perm (z :: xs) := by
  have h : (xs.take k ++ z :: xs.drop k).Perm (z :: (xs.take k ++ xs.drop k)) := List.perm_middle
  rw [List.take_append_drop] at h
  rw [List.append_assoc]
  exact h
/-- a pair put together: its value, its size -/
structure Join (g : Rat → Rat → Rat) (z : Rat) : Prop where
  swap : ∀ a b c, g a (g b c) = g b (g a c)
  assoc : ∀ a b c, g (g a b) c = g a (g b c)
  one : ∀ a, g a z = a
  sz : ∀ {m n : Nat} {a b : Rat}, Sz m a → Sz n b → Sz (m + n + 1) (g a b)
theorem join_add : Join (· + ·) 0 := ⟨fun a b c => by show a + (b + c) = b + (a + c); rw [← Rat.add_assoc, Rat.add_comm a b, Rat.add_assoc], fun a b c => Rat.add_assoc a b c, fun a => Rat.add_zero a, sz_add⟩
theorem join_mul : Join (· * ·) 1 := ⟨fun a b c => by show a * (b * c) = b * (a * c); rw [← Rat.mul_assoc, Rat.mul_comm a b, Rat.mul_assoc], fun a b c => Rat.mul_assoc a b c, fun a => Rat.mul_one a, fun h1 h2 => (sz_mul h1 h2).mono (by omega)⟩
theorem Join.two {g : Rat → Rat → Rat} {z : Rat} (J : Join g z) (a b : Rat) (l : List Rat) : opR g z (a :: b :: l) = opR g z (g a b :: l) := (J.assoc a b _).symm
theorem Join.sz2 {g : Rat → Rat → Rat} {z : Rat} (J : Join g z) {a b : Rat} {l : List Rat} {B : Nat} (h : Szs B (a :: b :: l)) : Szs B (g a b :: l) := by
  cases h with
  | cons h1 r =>
    cases r with
    | cons h2 r =>
      rename_i m1 m2 B2
      have := Szs.cons (J.sz h1 h2) r
      rw [show B2 + (m2 + 1) + (m1 + 1) = B2 + (m1 + m2 + 1 + 1) by omega]
      exact this
theorem Szs.hd {B : Nat} {a : Rat} {l : List Rat} (h : Szs B (a :: l)) : Sz B a := by
  cases h with
  | cons h1 r => exact h1.mono (by omega)
theorem Szs.tl {B : Nat} {a : Rat} {l : List Rat} (h : Szs B (a :: l)) : ∃ B', B' ≤ B ∧ Szs B' l := by
  cases h with
  | cons h1 r => exact ⟨_, by omega, r⟩
def gop (c : Bool) : Rat → Rat → Rat := if c then (· + ·) else (· * ·)
def gun (c : Bool) : Rat := if c then 0 else 1
theorem join_of (c : Bool) : Join (gop c) (gun c) := by
  cases c
  · exact join_mul
  · exact join_add
def spGrouped (K : PySem.W.Frag) : Sp := fun vs H Q _ => ∃ (b : Bag) (r : Addr) (c : Bool) (xs : List V) (qs : List Rat), vs = [.ref b.a, .ref r, .bl c] ∧ BagAt K H b ∧ SqL K H r xs ∧ b.a ≠ r ∧ Ams K H xs qs ∧ 1 ≤ qs.length ∧ qs.length ≤ 6 ∧ (∀ q ∈ qs, Sz 114 q) ∧
  ∀ v H', Am K H' v (opR (gop c) (gun c) qs) → BagAt K H' b → Ext [b.a] H H' → Q v H'
end
end Yk

set_option maxHeartbeats 4000000
namespace Yk
open PySem PySem.Spec PyProof.Rows L2

/-- the same data, so deep -/
inductive Eqd (K : PySem.W.Frag) (H : Hp) : Nat → V → V → Prop where
  | non (n : Nat) : Eqd K H n .non .non
  | bl (n : Nat) (b : Bool) : Eqd K H n (.bl b) (.bl b)
  | int (n : Nat) (i : Int) : Eqd K H n (.int i) (.int i)
  | str (n : Nat) (z : Str) : Eqd K H n (.str z) (.str z)
  | tup {n : Nat} {a b : Addr} {xs ys : List V} (ha : SqT K H a xs) (hb : SqT K H b ys) (hl : xs.length = ys.length) (h4 : xs.length ≤ 4000) (h : ∀ (i : Nat) (x y : V), xs[i]? = some x → ys[i]? = some y → Eqd K H n x y) : Eqd K H (n + 1) (.ref a) (.ref b)
  | lst {n : Nat} {a b : Addr} {xs ys : List V} (ha : SqL K H a xs) (hb : SqL K H b ys) (hl : xs.length = ys.length) (h4 : xs.length ≤ 4000) (h : ∀ (i : Nat) (x y : V), xs[i]? = some x → ys[i]? = some y → Eqd K H n x y) : Eqd K H (n + 1) (.ref a) (.ref b)
theorem Eqd.x0 {K : PySem.W.Frag} {H H1 : Hp} (e : Ext [] H H1) {n : Nat} {v w : V} (h : Eqd K H n v w) : Eqd K H1 n v w := by
  induction h with
  | non n => exact .non n
  | bl n b => exact .bl n b
  | int n i => exact .int n i
  | str n z => exact .str n z
  | tup ha hb hl h4 _ ih => exact .tup (tup0 e ha) (tup0 e hb) hl h4 ih
  | lst ha hb hl h4 _ ih => exact .lst (lst0 e ha) (lst0 e hb) hl h4 ih
theorem Am.eqd {K : PySem.W.Frag} {H : Hp} {v w : V} {q : Rat} (n : Nat) (h1 : Am K H v q) (h2 : Am K H w q) : Eqd K H (n + 1) v w := by
  obtain ⟨a, rfl, h1⟩ := h1
  obtain ⟨b, rfl, h2⟩ := h2
  refine .tup h1 h2 rfl (by simp) fun i x y hx hy => ?_
  rw [hx] at hy
  cases hy
  match i, hx with
  | 0, hx => cases hx; exact .int _ _
  | 1, hx => cases hx; exact .int _ _
  | i + 2, hx => cases hx
def spLike (K : PySem.W.Frag) : Nat → Sp
  | 0 => fun _ _ _ _ => False
  | n + 1 => fun vs H Q _ => ∃ v1 v2, vs = [v1, v2] ∧ Eqd K H n v1 v2 ∧ ∀ H', Ext [] H H' → Q (.bl true) H'
section
variable {P : Program} {w : World} {K : PySem.W.Frag} {mg : Str → Option Value} {base : Heap} {f : Addr} {fd : FuncData}
end
end Yk

set_option maxHeartbeats 4000000
namespace Yk
open PySem PySem.Spec PyProof.Rows L2 TL

section
variable {P : Program} {w : World} {K : PySem.W.Frag} {mg : Str → Option Value} {base : Heap} {f : Addr} {fd : FuncData}
def spNumText (K : PySem.W.Frag) : Sp := fun vs H Q _ => ∃ n : Nat, vs = [.int (n : Int)] ∧ n < 2 ^ 1900 ∧ ∀ H', Ext [] H H' → Q (.str (nt n)) H'
def spIsNum (K : PySem.W.Frag) : Sp := fun vs H Q _ => ∃ n : Int, vs = [.int n] ∧ Q (.bl true) H
def spIsAm (K : PySem.W.Frag) : Sp := fun vs H Q _ => ∃ (v : V) (q : Rat), vs = [v] ∧ Am K H v q ∧ 0 ≤ q ∧ Q (.bl true) H
end
end Yk

set_option maxHeartbeats 4000000
namespace Yk
open PySem PySem.Spec PyProof.Rows L2 TL

section
variable {σ : L2.St} {H : Hp} {Q : VK} {te : TE}
theorem r_js {t : TE} {ts : List TE} {acc : Str} {R : Str → Hp → Prop} (h : t σ H fun x H1 => ∃ y : Str, x = .str y ∧ (acc ++ y).length ≤ sizeLine ∧ tJs ts (acc ++ y) σ H1 R) : tJs (t :: ts) acc σ H R := h
theorem r_M1 {r : V → List V → Hp → VK → Prop} {to : TE} (h : to σ H fun x H1 => (∃ a, x = .str a) ∧ te σ H1 fun y H2 => r x [y] H2 Q) : tM1 r to te σ H Q := h
theorem r_jsN {acc : Str} {R : Str → Hp → Prop} (h : R acc H) : tJs [] acc σ H R := h
theorem r_fmt (h : te σ H fun x H1 => (∃ y : Str, x = .str y ∧ y.length ≤ sizeLine ∧ Q (.str y) H1) ∨ ∃ i : Int, x = .int i ∧ i.natAbs.log2 < 1920 ∧ Q (.str (toString i)) H1) : tFmt te σ H Q := h
theorem e_app (x : Str) : Str.empty ++ x = x := str_eq (by
  show (#[] ++ x.cps).toList = x.cps.toList
  simp)
theorem len_app (x y : Str) : (x ++ y).length = x.length + y.length := by
  show (x.cps ++ y.cps).size = _
  rw [Array.size_append]
  rfl
theorem ntl {n : Nat} (h : n < 2 ^ 1900) : (nt n).length ≤ 1900 := by rw [len_nt]; exact numL_le (by decide) (bits_lt h)
theorem ntl4 {n : Nat} (h : n < 2 ^ 1200) : (nt n).length ≤ 400 := by rw [len_nt]; exact numL_le (by decide) (Nat.lt_of_lt_of_le h (by decide +kernel))
end
section
variable {P : Program} {w : World} {K : PySem.W.Frag} {mg : Str → Option Value} {base : Heap} {f : Addr} {fd : FuncData}
def spReadNum (K : PySem.W.Frag) : Sp := fun vs H Q _ => ∃ (n : Nat) (m : Int), vs = [.str (nt n), .int m] ∧ (nt n).length ≤ 640 ∧ ((nt n).length : Int) ≤ m ∧ Q (.int (n : Int)) H
def spAmTxt (K : PySem.W.Frag) : Sp := fun vs H Q _ => ∃ v q, vs = [v] ∧ Am K H v q ∧ 0 ≤ q ∧ Sz 1900 q ∧ ∀ H', Ext [] H H' → Q (.str (amTxt q)) H'
def spReadAm (K : PySem.W.Frag) : Sp := fun vs H Q _ => ∃ q, vs = [.str (amTxt q)] ∧ 0 ≤ q ∧ Sz 1200 q ∧ RetAm K H Q q
end
end Yk

set_option maxHeartbeats 8000000
namespace Yk
open PySem PySem.Spec PyProof.Rows L2 TL

section
variable {P : Program} {w : World} {K : PySem.W.Frag} {mg : Str → Option Value} {base : Heap} {f : Addr} {fd : FuncData}
section
variable {H : Hp} {Q : VK} {E : XK} {v1 v2 v3 : V} {p q r : Rat} {m n : Nat}
theorem sumQ2 (p q : Rat) : sumQ [p, q] = p + q := by
  show 0 + p + q = p + q
  rw [Rat.zero_add]
theorem sumQ3 (p q r : Rat) : sumQ [p, q, r] = p + q + r := by
  show 0 + p + q + r = p + q + r
  rw [Rat.zero_add]
theorem k_plus2 (a1 : Am K H v1 p) (a2 : Am K H v2 q) (z1 : Sz 1900 p) (z2 : Sz 1900 q) (k : ∀ v H', Ext [] H H' → Am K H' v (p + q) → Q v H') : spPlus K [v1, v2] H Q E :=
  ⟨[p, q], 1900, Ams.cons a1 (Ams.cons a2 Ams.nil), fun x hx => by
    rcases List.mem_cons.mp hx with rfl | hx
    · exact z1
    · rw [List.mem_singleton.mp hx]; exact z2, by decide, by simp, fun v H' e a => k v H' e (by rw [sumQ2] at a; exact a)⟩
theorem k_plus3 (a1 : Am K H v1 p) (a2 : Am K H v2 q) (a3 : Am K H v3 r) (z1 : Sz 1300 p) (z2 : Sz 1300 q) (z3 : Sz 1300 r) (k : ∀ v H', Ext [] H H' → Am K H' v (p + q + r) → Q v H') : spPlus K [v1, v2, v3] H Q E :=
  ⟨[p, q, r], 1300, Ams.cons a1 (Ams.cons a2 (Ams.cons a3 Ams.nil)), fun x hx => by
    rcases List.mem_cons.mp hx with rfl | hx
    · exact z1
    · rcases List.mem_cons.mp hx with rfl | hx
      · exact z2
      · rw [List.mem_singleton.mp hx]; exact z3, by decide, by simp, fun v H' e a => k v H' e (by rw [sumQ3] at a; exact a)⟩
theorem k_times (a1 : Am K H v1 p) (a2 : Am K H v2 q) (z1 : Sz 4000 p) (z2 : Sz 4000 q) (k : ∀ v H', Ext [] H H' → Am K H' v (p * q) → Q v H') : spTimes K [v1, v2] H Q E := ⟨_, _, p, q, rfl, a1, a2, z1, z2, k⟩
theorem k_over (a1 : Am K H v1 p) (a2 : Am K H v2 q) (h : 0 < q) (z1 : Sz 4000 p) (z2 : Sz 4000 q) (k : ∀ v H', Ext [] H H' → Am K H' v (p / q) → Q v H') : spOver K [v1, v2] H Q E := ⟨_, _, p, q, rfl, a1, a2, h, z1, z2, k⟩
theorem k_minus (a1 : Am K H v1 p) (a2 : Am K H v2 q) (h : q ≤ p) (z1 : Sz 4000 p) (z2 : Sz 4000 q) (k : ∀ v H', Ext [] H H' → Am K H' v (p - q) → Q v H') : spMinus K [v1, v2] H Q E := ⟨_, _, p, q, rfl, a1, a2, h, z1, z2, k⟩
theorem k_cmp (a1 : Am K H v1 p) (a2 : Am K H v2 q) (z1 : Sz 4000 p) (z2 : Sz 4000 q) (k : Q (.int (cmpQ p q)) H) : spCompare K [v1, v2] H Q E := ⟨_, _, p, q, rfl, a1, a2, z1, z2, k⟩
theorem k_order (a1 : Am K H v1 p) (a2 : Am K H v2 q) (z1 : Sz 4000 p) (z2 : Sz 4000 q) (k : Q (.int (cmpQ p q)) H) : spOrder K [v1, v2] H Q E := ⟨_, _, p, q, rfl, a1, a2, z1, z2, k⟩
theorem k_two {ok : Rat → Rat → Prop} {F : Rat → Rat → Rat} (a1 : Am K H v1 p) (a2 : Am K H v2 q) (z1 : Sz 4000 p) (z2 : Sz 4000 q) (h1 : 0 ≤ p) (h2 : 0 ≤ q) (h3 : ok p q) (k : ∀ v H', Ext [] H H' → Am K H' v (F p q) → Q v H') : sp2 ok F K [v1, v2] H Q E := ⟨_, _, p, q, rfl, a1, a2, z1, z2, h1, h2, h3, k⟩
theorem ams_eqd {a b : Addr} {xs ys : List V} {qs : List Rat} (h1 : SqL K H a xs) (h2 : SqL K H b ys) (h3 : Ams K H xs qs) (h4 : Ams K H ys qs) (h5 : qs.length ≤ 4000) (n : Nat) : Eqd K H (n + 2) (.ref a) (.ref b) :=
  .lst h1 h2 (h3.1.trans h4.1.symm) (by rw [h3.1]; exact h5) fun i x y hx hy => by
    obtain ⟨q, hq, e1⟩ := h3.at_ hx
    exact e1.eqd n (h4.2 i y q hy hq)
theorem k_like {v w : V} {n : Nat} (h : Eqd K H n v w) (k : ∀ H', Ext [] H H' → Q (.bl true) H') : spLike K (n + 1) [v, w] H Q E := ⟨v, w, rfl, h, k⟩
theorem ints_eqd {a b : Addr} {ns : List Int} (h1 : SqL K H a (ns.map V.int)) (h2 : SqL K H b (ns.map V.int)) (h : ns.length ≤ 4000) (n : Nat) : Eqd K H (n + 1) (.ref a) (.ref b) :=
  .lst h1 h2 rfl (by rw [List.length_map]; exact h) fun i x y hx hy => by
    rw [hx] at hy
    cases hy
    rw [List.getElem?_map] at hx
    cases e : ns[i]? with
    | none => rw [e] at hx; cases hx
    | some z => rw [e] at hx; cases hx; exact .int _ _
theorem cmpQ_eq (p q : Rat) : cmpQ p q = cmpQ' p q := rfl
end
def spThree (K : PySem.W.Frag) : Sp := fun vs H Q _ => ∃ v1 v2 v3 p q r, vs = [v1, v2, v3] ∧ Am K H v1 p ∧ Am K H v2 q ∧ Am K H v3 r ∧ 0 ≤ p ∧ 0 ≤ q ∧ 0 ≤ r ∧ Sz 114 p ∧ Sz 114 q ∧ Sz 114 r ∧ ∀ H', Ext [] H H' → Q (.bl true) H'
end
end Yk

set_option maxHeartbeats 8000000
namespace Yk
open PySem PySem.Spec PyProof.Rows L2 TL

section
variable {P : Program} {w : World} {K : PySem.W.Frag} {mg : Str → Option Value} {base : Heap} {f : Addr} {fd : FuncData}
/-! the row of a turn -/
theorem Am.b2 {H H1 : Hp} {b : Bag} {v : V} {q : Rat} (e : Ext [b.a] H H1) (hb : BagAt K H b) (h : Am K H v q) : Am K H1 v q := h.b hb e
def Good (qs : List Rat) : Prop := 3 ≤ qs.length ∧ qs.length ≤ 6 ∧ ∀ q ∈ qs, 0 ≤ q ∧ Sz 114 q
structure RowAt (K : PySem.W.Frag) (H0 H : Hp) (b : Bag) (row : Addr) (xs : List V) (qs : List Rat) : Prop where
  at_ : H row = some (.lst xs)
  ams : Ams K H xs qs
  good : Good qs
  bag : BagAt K H b
  new : H0 row = none
  bag0 : BagAt K H0 b
  ext : Ext [b.a] H0 H
theorem RowAt.ne {H0 H : Hp} {b : Bag} {row : Addr} {xs : List V} {qs : List Rat} (R : RowAt K H0 H b row xs qs) : row ≠ b.a := fun z => R.bag0.ne R.new z.symm
theorem RowAt.x0 {H0 H H1 : Hp} {b : Bag} {row : Addr} {xs : List V} {qs : List Rat} (e : Ext [] H H1) (R : RowAt K H0 H b row xs qs) : RowAt K H0 H1 b row xs qs :=
  ⟨e _ _ R.at_ (fun z => nomatch z), R.ams.x0 e, R.good, R.bag.x0 e, R.new, R.bag0, R.ext.trans e.of0⟩
theorem RowAt.b {H0 H H1 : Hp} {b : Bag} {row : Addr} {xs : List V} {qs : List Rat} (e : Ext [b.a] H H1) (hb : BagAt K H1 b) (R : RowAt K H0 H b row xs qs) : RowAt K H0 H1 b row xs qs :=
  ⟨e _ _ R.at_ (by simpa using R.ne), R.ams.b R.bag e, R.good, hb, R.new, R.bag0, R.ext.trans e⟩
theorem RowAt.sq {H0 H : Hp} {b : Bag} {row : Addr} {xs : List V} {qs : List Rat} (R : RowAt K H0 H b row xs qs) : SqL K H row xs := .inl (.inl R.at_)
theorem Ams.set {H : Hp} {xs : List V} {qs : List Rat} (h : Ams K H xs qs) {j : Nat} {v : V} {q : Rat} (hv : Am K H v q) : Ams K H (xs.set j v) (qs.set j q) := by
  refine ⟨by rw [List.length_set, List.length_set, h.1], fun i x y a b => ?_⟩
  by_cases hj : j = i
  · subst hj
    rw [List.getElem?_set_self'] at a b
    cases ex : xs[j]? with
    | none => rw [ex] at a; cases a
    | some x0 =>
      cases eq : qs[j]? with
      | none => rw [eq] at b; cases b
      | some q0 =>
        rw [ex] at a
        rw [eq] at b
        cases a
        cases b
        exact hv
  · rw [List.getElem?_set_ne hj] at a b
    exact h.2 i x y a b
theorem lmax_eq (m q : Rat) : lmax m q = if m < q then q else m := by
  unfold lmax
  by_cases h1 : q < m
  · rw [if_pos h1, if_neg (by grind)]
  · rw [if_neg h1]
    by_cases h2 : m < q
    · rw [if_pos h2]
    · rw [if_neg h2]; grind
theorem minQ_spec : ∀ (qs : List Rat) (p : Rat), minQ p qs ∈ p :: qs ∧ ∀ x ∈ p :: qs, minQ p qs ≤ x
  | [], p => ⟨List.mem_cons_self, fun x hx => by rw [List.mem_singleton.mp hx]; exact Rat.le_refl⟩
  | q :: r, p => by
    obtain ⟨h1, h2⟩ := minQ_spec r (if q < p then q else p)
    have e : minQ p (q :: r) = minQ (if q < p then q else p) r := rfl
    rw [e]
    have h3 := h2 _ List.mem_cons_self
    refine ⟨?_, fun x hx => ?_⟩
    · rcases List.mem_cons.mp h1 with h | h
      · rw [h]; split <;> simp
      · exact List.mem_cons_of_mem _ (List.mem_cons_of_mem _ h)
    · rcases List.mem_cons.mp hx with rfl | hx
      · refine Rat.le_trans h3 ?_
        split
        · grind
        · exact Rat.le_refl
      · rcases List.mem_cons.mp hx with rfl | hx
        · refine Rat.le_trans h3 ?_
          split
          · exact Rat.le_refl
          · grind
        · exact h2 x (List.mem_cons_of_mem _ hx)
theorem maxQ_spec : ∀ (qs : List Rat) (p : Rat), maxQ p qs ∈ p :: qs ∧ ∀ x ∈ p :: qs, x ≤ maxQ p qs
  | [], p => ⟨List.mem_cons_self, fun x hx => by rw [List.mem_singleton.mp hx]; exact Rat.le_refl⟩
  | q :: r, p => by
    obtain ⟨h1, h2⟩ := maxQ_spec r (if p < q then q else p)
    have e : maxQ p (q :: r) = maxQ (if p < q then q else p) r := rfl
    rw [e]
    have h3 := h2 _ List.mem_cons_self
    refine ⟨?_, fun x hx => ?_⟩
    · rcases List.mem_cons.mp h1 with h | h
      · rw [h]; split <;> simp
      · exact List.mem_cons_of_mem _ (List.mem_cons_of_mem _ h)
    · rcases List.mem_cons.mp hx with rfl | hx
      · refine Rat.le_trans ?_ h3
        split
        · grind
        · exact Rat.le_refl
      · rcases List.mem_cons.mp hx with rfl | hx
        · refine Rat.le_trans ?_ h3
          split
          · exact Rat.le_refl
          · grind
        · exact h2 x (List.mem_cons_of_mem _ hx)
theorem minQ_perm {p q : Rat} {l m : List Rat} (h : (p :: l).Perm (q :: m)) : minQ p l = minQ q m := by
  obtain ⟨a1, a2⟩ := minQ_spec l p
  obtain ⟨b1, b2⟩ := minQ_spec m q
  exact Rat.le_antisymm (a2 _ (h.symm.subset b1)) (b2 _ (h.subset a1))
theorem maxQ_perm {p q : Rat} {l m : List Rat} (h : (p :: l).Perm (q :: m)) : maxQ p l = maxQ q m := by
  obtain ⟨a1, a2⟩ := maxQ_spec l p
  obtain ⟨b1, b2⟩ := maxQ_spec m q
  exact Rat.le_antisymm (b2 _ (h.subset a1)) (a2 _ (h.symm.subset b1))
theorem foldl_lmin (q : Rat) (l : List Rat) : (q :: l).foldl lmin q = minQ q l := by
  show l.foldl lmin (lmin q q) = minQ q l
  have e : lmin q q = q := by unfold lmin; split <;> rfl
  rw [e]
  rfl
theorem foldl_lmax (q : Rat) (l : List Rat) : (q :: l).foldl lmax q = maxQ q l := by
  show l.foldl lmax (lmax q q) = maxQ q l
  have e : lmax q q = q := by unfold lmax; split <;> rfl
  rw [e]
  have h : ∀ (l : List Rat) (z : Rat), l.foldl lmax z = l.foldl (fun m q => if m < q then q else m) z := by
    intro l
    induction l with
    | nil => intro z; rfl
    | cons a r ih =>
      intro z
      show r.foldl lmax (lmax z a) = r.foldl _ (if z < a then a else z)
      rw [lmax_eq, ih]
  exact h l q
/-- from the same things in another order, the same row -/
theorem ams_perm {H : Hp} {xs ys : List V} (p : ys.Perm xs) : ∀ {qs : List Rat}, Ams K H xs qs → ∃ rs, Ams K H ys rs ∧ rs.Perm qs := by
  induction p with
  | nil => exact fun {qs} h => ⟨qs, h, List.Perm.refl _⟩
  | cons x _ ih =>
    intro qs h
    cases qs with
    | nil => exact absurd h.1 (by simp)
    | cons q r =>
      have h1 : Ams K H _ r := ⟨by simpa using h.1, fun i v u a b => h.2 (i + 1) v u (by simpa using a) (by simpa using b)⟩
      obtain ⟨rs, a, b⟩ := ih h1
      exact ⟨q :: rs, Ams.cons (h.2 0 x q rfl rfl) a, b.cons q⟩
  | swap x y l =>
    intro qs h
    match qs, h with
    | [], h => exact absurd h.1 (by simp)
    | [_], h => exact absurd h.1 (by simp)
    | q1 :: q2 :: r, h =>
      have h1 : Ams K H l r := ⟨by simpa using h.1, fun i v u a b => h.2 (i + 2) v u (by simpa using a) (by simpa using b)⟩
      exact ⟨q2 :: q1 :: r, Ams.cons (h.2 1 _ q2 rfl rfl) (Ams.cons (h.2 0 _ q1 rfl rfl) h1), List.Perm.swap q1 q2 r⟩
  | trans _ _ ih1 ih2 =>
    intro qs h
    obtain ⟨rs, a, b⟩ := ih2 h
    obtain ⟨ts, c, d⟩ := ih1 a
    exact ⟨ts, c, d.trans b⟩
theorem Good.perm {qs rs : List Rat} (g : Good qs) (p : rs.Perm qs) : Good rs := ⟨by rw [p.length_eq]; exact g.1, by rw [p.length_eq]; exact g.2.1, fun q hq => g.2.2 q (p.subset hq)⟩
theorem k_amt {H : Hp} {b : Bag} {Q : VK} {E : XK} (hb : BagAt K H b) (k : ∀ v q H', Am K H' v q → 0 ≤ q → Sz 114 q → BagAt K H' b → Ext [b.a] H H' → Q v H') : spAmt K [.ref b.a] H Q E := ⟨b, rfl, hb, k⟩
theorem k_draw {H : Hp} {b : Bag} {n : Int} {Q : VK} {E : XK} (hb : BagAt K H b) (h0 : 0 < n) (h1 : n < 2 ^ 400) (k : ∀ (x : Int) H', 0 ≤ x → x < n → BagAt K H' b → Ext [b.a] H H' → Q (.int x) H') : spDraw K [.ref b.a, .int n] H Q E := ⟨b, n, rfl, h0, h1, hb, k⟩
end
end Yk

set_option maxHeartbeats 4000000
namespace Yk
structure Row where
  man : Option (Rat × Rat)
  w : Nat
  b : Rat
def shq (man : Option (Rat × Rat)) (w : Nat) (x : Rat) : Rat := match man with
  | none => 0
  | some (l, m) => lmax l (lmin m ((w : Rat) * x))
def Row.at_ (r : Row) (x : Rat) : Rat := shq r.man r.w (lmin x r.b)
def tot (rows : List Row) (x : Rat) : Rat := sumQ (rows.map fun r => r.at_ x)
theorem sumQ_cons (q : Rat) (l : List Rat) : sumQ (q :: l) = q + sumQ l := by
  have h : ∀ (l : List Rat) (z : Rat), l.foldl (· + ·) z = z + sumQ l := by
    intro l
    induction l with
    | nil => intro z; show z = z + 0; rw [Rat.add_zero]
    | cons a r ih =>
      intro z
      show r.foldl (· + ·) (z + a) = z + sumQ (a :: r)
      have e : sumQ (a :: r) = a + sumQ r := by
        show r.foldl (· + ·) (0 + a) = _
        rw [ih, Rat.zero_add]
      rw [ih, e, Rat.add_assoc]
  show l.foldl (· + ·) (0 + q) = _
  rw [h, Rat.zero_add]
theorem lmin_le1 (p q : Rat) : lmin p q ≤ p := by unfold lmin; split <;> grind
theorem lmin_le2 (p q : Rat) : lmin p q ≤ q := by unfold lmin; split <;> grind
theorem lmin_mono {p q r : Rat} (h : p ≤ q) : lmin p r ≤ lmin q r := by unfold lmin; split <;> split <;> grind
theorem wmono {w : Nat} {x y : Rat} (h : x ≤ y) : (w : Rat) * x ≤ (w : Rat) * y := Rat.mul_le_mul_of_nonneg_left h (by exact_mod_cast Nat.zero_le w)
theorem shq_mono {man : Option (Rat × Rat)} {w : Nat} {x y : Rat} (h : x ≤ y) : shq man w x ≤ shq man w y := by
  cases man with
  | none => exact Rat.le_refl
  | some p =>
    obtain ⟨l, m⟩ := p
    have h2 := wmono (w := w) h
    show lmax l (lmin m _) ≤ lmax l (lmin m _)
    generalize (w : Rat) * x = a at h2
    generalize (w : Rat) * y = b at h2
    unfold lmax lmin
    grind
theorem Row.mono (r : Row) {x y : Rat} (h : x ≤ y) : r.at_ x ≤ r.at_ y := shq_mono (lmin_mono h)
theorem tot_cons (r : Row) (rows : List Row) (x : Rat) : tot (r :: rows) x = r.at_ x + tot rows x := sumQ_cons _ _
theorem tot_mono (rows : List Row) {x y : Rat} (h : x ≤ y) : tot rows x ≤ tot rows y := by
  induction rows with
  | nil => exact Rat.le_refl
  | cons r rows ih =>
    rw [tot_cons, tot_cons]
    have := r.mono h
    grind
/-- linear between l and u -/
def Lin (T : Rat → Rat) (l u : Rat) : Prop := ∀ z, l ≤ z → z ≤ u → (T z - T l) * (u - l) = (T u - T l) * (z - l)
theorem Lin.const {T : Rat → Rat} {l u c : Rat} (hu : l ≤ u) (h : ∀ z, l ≤ z → z ≤ u → T z = c) : Lin T l u := fun z h1 h2 => by
  rw [h z h1 h2, h l Rat.le_refl hu, h u hu Rat.le_refl]
  grind
theorem Lin.line {T : Rat → Rat} {l u c : Rat} (hu : l ≤ u) (h : ∀ z, l ≤ z → z ≤ u → T z = c * z) : Lin T l u := fun z h1 h2 => by
  rw [h z h1 h2, h l Rat.le_refl hu, h u hu Rat.le_refl]
  grind
theorem Lin.add {T S : Rat → Rat} {l u : Rat} (h1 : Lin T l u) (h2 : Lin S l u) : Lin (fun z => T z + S z) l u := fun z a b => by
  have := h1 z a b
  have := h2 z a b
  dsimp only
  grind
def Row.brk (r : Row) : List Rat := match r.man with
  | none => [r.b]
  | some (l, m) => [l / (r.w : Rat), m / (r.w : Rat), r.b]
theorem Row.lin (r : Row) (hw : 0 < r.w) {l u : Rat} (hlu : l ≤ u) (h : r.man ≠ none → ∀ p ∈ r.brk, p ≤ l ∨ u ≤ p) : Lin r.at_ l u := by
  obtain ⟨man, w, b⟩ := r
  cases man with
  | none => exact Lin.const hlu (c := 0) fun z _ _ => rfl
  | some p =>
    obtain ⟨s, m⟩ := p
    have h := h (by simp)
    have hs := h (s / (w : Rat)) (by simp [Row.brk])
    have hm := h (m / (w : Rat)) (by simp [Row.brk])
    have hb := h b (by simp [Row.brk])
    have w0 : (0 : Rat) < (w : Rat) := by exact_mod_cast hw
    have es : (w : Rat) * (s / (w : Rat)) = s := by grind
    have em : (w : Rat) * (m / (w : Rat)) = m := by grind
    generalize s / (w : Rat) = s' at *
    generalize m / (w : Rat) = m' at *
    subst es em
    have k : ∀ z : Rat, ({ man := some ((w : Rat) * s', (w : Rat) * m'), w := w, b := b } : Row).at_ z = lmax ((w : Rat) * s') (lmin ((w : Rat) * m') ((w : Rat) * lmin z b)) := fun z => rfl
    have c1 : ∀ x y : Rat, x ≤ y → lmin ((w : Rat) * y) ((w : Rat) * x) = (w : Rat) * x := fun x y hxy => by have := wmono (w := w) hxy; unfold lmin; grind
    have c2 : ∀ x y : Rat, x ≤ y → lmin ((w : Rat) * x) ((w : Rat) * y) = (w : Rat) * x := fun x y hxy => by have := wmono (w := w) hxy; unfold lmin; grind
    have d1 : ∀ x y : Rat, x ≤ y → lmax ((w : Rat) * y) ((w : Rat) * x) = (w : Rat) * y := fun x y hxy => by have := wmono (w := w) hxy; unfold lmax; grind
    have d2 : ∀ x y : Rat, x ≤ y → lmax ((w : Rat) * x) ((w : Rat) * y) = (w : Rat) * y := fun x y hxy => by have := wmono (w := w) hxy; unfold lmax; grind
    rcases hb with hb | hb
    · refine Lin.const hlu (c := lmax ((w : Rat) * s') (lmin ((w : Rat) * m') ((w : Rat) * b))) fun z h1 h2 => ?_
      rw [k, show lmin z b = b by unfold lmin; grind]
    · have kz : ∀ z : Rat, z ≤ u → lmin z b = z := fun z h2 => by unfold lmin; grind
      rcases hm with hm | hm
      · refine Lin.const hlu (c := lmax ((w : Rat) * s') ((w : Rat) * m')) fun z h1 h2 => ?_
        rw [k, kz z h2, c2 _ _ (by grind)]
      · rcases hs with hs | hs
        · refine Lin.line hlu (c := (w : Rat)) fun z h1 h2 => ?_
          rw [k, kz z h2, c1 _ _ (by grind), d2 _ _ (by grind)]
        · refine Lin.const hlu (c := (w : Rat) * s') fun z h1 h2 => ?_
          rw [k, kz z h2, c1 _ _ (by grind), d1 _ _ (by grind)]
theorem lin_tot (rows : List Row) (hw : ∀ r ∈ rows, 0 < r.w) {l u : Rat} (hlu : l ≤ u) (h : ∀ r ∈ rows, r.man ≠ none → ∀ p ∈ r.brk, p ≤ l ∨ u ≤ p) : Lin (tot rows) l u := by
  induction rows with
  | nil => exact Lin.const hlu (c := 0) fun z _ _ => rfl
  | cons r rows ih =>
    have e : tot (r :: rows) = fun x => r.at_ x + tot rows x := funext fun x => tot_cons r rows x
    rw [e]
    exact (r.lin (hw r List.mem_cons_self) hlu (h r List.mem_cons_self)).add (ih (fun r hr => hw r (List.mem_cons_of_mem _ hr)) fun r hr => h r (List.mem_cons_of_mem _ hr))
theorem le_cases {x y : Rat} (h : x ≤ y) : x < y ∨ x = y := by grind
theorem nlt {x y : Rat} (h : x < y → False) : y ≤ x := Rat.not_lt.mp h
/-- the level: the least height at which the goal is reached, else the top -/
structure IsLev (T : Rat → Rat) (top goal y : Rat) : Prop where
  nn : 0 ≤ y
  le : y ≤ top
  lo : ∀ z, 0 ≤ z → z < y → T z < goal
  hi : goal ≤ T y ∨ y = top
theorem IsLev.le_of {T : Rat → Rat} {top goal y z : Rat} (a : IsLev T top goal y) (b : IsLev T top goal z) : z ≤ y := nlt fun h => by
  have := b.lo y a.nn h
  rcases a.hi with e | e
  · grind
  · have := b.le; grind
theorem IsLev.uniq {T : Rat → Rat} {top goal y z : Rat} (a : IsLev T top goal y) (b : IsLev T top goal z) : y = z := Rat.le_antisymm (b.le_of a) (a.le_of b)
/-- on a line -/
def onl (T : Rat → Rat) (goal l u : Rat) : Rat := l + (goal - T l) * (u - l) / (T u - T l)
theorem lev_line {T : Rat → Rat} {top goal l u : Rat} (mono : ∀ x y, x ≤ y → T x ≤ T y) (h0 : 0 ≤ l) (hlu : l ≤ u) (hu : u ≤ top) (hl : Lin T l u) (g1 : T l < goal) (g2 : goal ≤ T u) : IsLev T top goal (onl T goal l u) ∧ l < onl T goal l u ∧ onl T goal l u ≤ u ∧ T (onl T goal l u) = goal := by
  have lu : l < u := by
    rcases le_cases hlu with h | h
    · exact h
    · subst h; grind
  have d0 : 0 < T u - T l := by grind
  have e0 : 0 < u - l := by grind
  obtain ⟨y, hy⟩ : ∃ y, y = onl T goal l u := ⟨_, rfl⟩
  rw [← hy]
  have ey : (y - l) * (T u - T l) = (goal - T l) * (u - l) := by
    rw [hy]
    unfold onl
    grind
  have y1 : l < y := by
    have h1 : 0 < (y - l) * (T u - T l) := by rw [ey]; exact Rat.mul_pos (by grind) e0
    refine Rat.not_le.mp fun h => ?_
    have h2 : 0 ≤ (l - y) * (T u - T l) := Rat.mul_nonneg (by grind) (by grind)
    grind
  have y2 : y ≤ u := by
    refine Rat.not_lt.mp fun h => ?_
    have h1 : 0 < (y - u) * (T u - T l) := Rat.mul_pos (by grind) d0
    have h2 : 0 ≤ (T u - goal) * (u - l) := Rat.mul_nonneg (by grind) (by grind)
    grind
  have ty : T y = goal := by
    have h1 := hl y (by grind) y2
    have h2 : (T y - goal) * (u - l) = 0 := by grind
    rcases Rat.mul_eq_zero.mp h2 with h | h <;> grind
  refine ⟨⟨by grind, by grind, fun z z0 zy => ?_, .inl (by rw [ty]; exact Rat.le_refl)⟩, y1, y2, ty⟩
  rcases (Rat.le_total : z ≤ l ∨ l ≤ z) with h | h
  · have := mono z l h; grind
  · have h1 := hl z h (by grind)
    have h2 := hl y (by grind) y2
    have h3 : (T y - T z) * (u - l) = (T u - T l) * (y - z) := by grind
    have h4 : 0 < (T u - T l) * (y - z) := Rat.mul_pos d0 (by grind)
    refine Rat.not_le.mp fun h5 => ?_
    have h6 : 0 ≤ (T z - T y) * (u - l) := Rat.mul_nonneg (by grind) (by grind)
    grind
theorem lev_zero {T : Rat → Rat} {top goal : Rat} (h : 0 ≤ top) (g : goal ≤ T 0) : IsLev T top goal 0 := ⟨Rat.le_refl, h, fun z a b => by grind, .inl g⟩
theorem lev_top {T : Rat → Rat} {top goal : Rat} (mono : ∀ x y, x ≤ y → T x ≤ T y) (h : 0 ≤ top) (g : T top < goal) : IsLev T top goal top := ⟨h, Rat.le_refl, fun z a b => by have := mono z top (by grind); grind, .inr rfl⟩
/-- not below 0, at most M, a multiple of the D-th part of 1 -/
structure In (D M : Nat) (q : Rat) : Prop where
  nn : 0 ≤ q
  le : q ≤ (M : Rat)
  ex : ∃ n : Int, q * (D : Rat) = (n : Rat)
theorem natQ {a b : Nat} (h : a ≤ b) : (a : Rat) ≤ (b : Rat) := by exact_mod_cast h
theorem natP {a : Nat} (h : 0 < a) : (0 : Rat) < (a : Rat) := by exact_mod_cast h
theorem In.sz {D M j k : Nat} {q : Rat} (h : In D M q) (h0 : 0 < D) (hD : D ≤ 2 ^ j) (hM : M ≤ 2 ^ k) : Sz (j + k + 1) q := by
  obtain ⟨n, e⟩ := h.ex
  have d0 := natP h0
  have eq : q = mkRat n D := by
    rw [Rat.mkRat_eq_div]
    grind
  have n0 : 0 ≤ n := by
    have h1 : (0 : Rat) ≤ q * (D : Rat) := Rat.mul_nonneg h.nn (by grind)
    rw [e] at h1
    exact_mod_cast h1
  have n1 : n ≤ (M * D : Nat) := by
    have h1 : q * (D : Rat) ≤ (M : Rat) * (D : Rat) := Rat.mul_le_mul_of_nonneg_right h.le (by grind)
    rw [e] at h1
    have h2 : ((n : Int) : Rat) ≤ (((M * D : Nat) : Int) : Rat) := by push_cast; exact h1
    exact_mod_cast h2
  have hh : M * D ≤ 2 ^ (j + k) := by rw [Nat.add_comm, Nat.pow_add]; exact Nat.mul_le_mul hM hD
  have h2 : 2 ^ (j + k) < 2 ^ (j + k + 1) := Nat.pow_lt_pow_succ (by decide)
  have h3 : 2 ^ j ≤ 2 ^ (j + k) := Nat.pow_le_pow_right (by decide) (by omega)
  refine sz_mk h0 eq ?_ ?_
  · omega
  · omega
theorem In.up {D D' M : Nat} {q : Rat} (h : In D M q) (hd : D ∣ D') : In D' M q := by
  obtain ⟨n, e⟩ := h.ex
  obtain ⟨c, rfl⟩ := hd
  refine ⟨h.nn, h.le, n * (c : Int), ?_⟩
  push_cast
  grind
theorem In.most {D M M' : Nat} {q : Rat} (h : In D M q) (hm : M ≤ M') : In D M' q := ⟨h.nn, Rat.le_trans h.le (natQ hm), h.ex⟩
theorem In.of_le {D M M' : Nat} {q : Rat} (h : In D M q) (hm : q ≤ (M' : Rat)) : In D M' q := ⟨h.nn, hm, h.ex⟩
theorem In.zero {D M : Nat} : In D M 0 := ⟨Rat.le_refl, natQ (Nat.zero_le M), 0, by norm_cast; grind⟩
theorem In.nat {D M n : Nat} (h : n ≤ M) : In D M (n : Rat) := ⟨natQ (Nat.zero_le n), natQ h, ((n * D : Nat) : Int), by push_cast; rfl⟩
theorem In.frac {D M n d : Nat} (h : 0 < d) (hd : d ∣ D) (hm : n ≤ M * d) : In D M (mkRat (n : Int) d) := by
  obtain ⟨c, rfl⟩ := hd
  have d0 := natP h
  have e : mkRat (n : Int) d = (n : Rat) / (d : Rat) := by rw [Rat.mkRat_eq_div]; norm_cast
  have hm' : (n : Rat) ≤ (M : Rat) * (d : Rat) := by exact_mod_cast hm
  have n0 := natQ (Nat.zero_le n)
  obtain ⟨x, ex⟩ : ∃ x : Rat, x = (n : Rat) / (d : Rat) := ⟨_, rfl⟩
  have ex2 : x * (d : Rat) = (n : Rat) := by rw [ex]; grind
  rw [e, ← ex]
  refine ⟨?_, ?_, ((n * c : Nat) : Int), ?_⟩
  · refine Rat.not_lt.mp fun z => ?_
    have := Rat.mul_pos (a := -x) (b := (d : Rat)) (by grind) d0
    grind
  · refine Rat.not_lt.mp fun z => ?_
    have := Rat.mul_pos (a := x - (M : Rat)) (b := (d : Rat)) (by grind) d0
    grind
  · push_cast
    grind
theorem In.add {D M N : Nat} {p q : Rat} (h : In D M p) (g : In D N q) : In D (M + N) (p + q) := by
  obtain ⟨a, ea⟩ := h.ex
  obtain ⟨b, eb⟩ := g.ex
  have := h.nn; have := h.le; have := g.nn; have := g.le
  refine ⟨by grind, by push_cast; grind, a + b, by push_cast; grind⟩
theorem In.sub {D M N : Nat} {p q : Rat} (h : In D M p) (g : In D N q) (e : q ≤ p) : In D M (p - q) := by
  obtain ⟨a, ea⟩ := h.ex
  obtain ⟨b, eb⟩ := g.ex
  have := h.nn; have := h.le; have := g.nn; have := g.le
  refine ⟨by grind, by grind, a - b, by push_cast; grind⟩
theorem In.lmin {D M N : Nat} {p q : Rat} (h : In D M p) (g : In D N q) : In D N (lmin p q) := by
  unfold Yk.lmin
  split
  · exact g
  · exact h.of_le (by have := g.le; grind)
theorem In.lmin1 {D M N : Nat} {p q : Rat} (h : In D M p) (g : In D N q) : In D M (Yk.lmin p q) := by
  unfold Yk.lmin
  split
  · exact g.of_le (by have := h.le; grind)
  · exact h
theorem In.lmax {D M : Nat} {p q : Rat} (h : In D M p) (g : In D M q) : In D M (lmax p q) := by
  unfold Yk.lmax
  split
  · exact h
  · exact g
theorem In.mulN {D M : Nat} {q : Rat} (h : In D M q) (w : Nat) : In D (w * M) ((w : Rat) * q) := by
  obtain ⟨a, ea⟩ := h.ex
  have w0 : (0 : Rat) ≤ (w : Rat) := natQ (Nat.zero_le w)
  refine ⟨Rat.mul_nonneg w0 h.nn, ?_, (w : Int) * a, by push_cast; grind⟩
  push_cast
  exact Rat.mul_le_mul_of_nonneg_left h.le w0
theorem In.mul {D D' M N : Nat} {p q : Rat} (h : In D M p) (g : In D' N q) : In (D * D') (M * N) (p * q) := by
  obtain ⟨a, ea⟩ := h.ex
  obtain ⟨b, eb⟩ := g.ex
  have h1 : p * q ≤ (M : Rat) * q := Rat.mul_le_mul_of_nonneg_right h.le g.nn
  have h2 : (M : Rat) * q ≤ (M : Rat) * (N : Rat) := Rat.mul_le_mul_of_nonneg_left g.le (natQ (Nat.zero_le M))
  refine ⟨Rat.mul_nonneg h.nn g.nn, by push_cast; exact Rat.le_trans h1 h2, a * b, ?_⟩
  push_cast
  rw [← ea, ← eb]
  grind
theorem In.divN {D M w : Nat} {q : Rat} (h : In D M q) (hw : 0 < w) : In (D * w) M (q / (w : Rat)) := by
  obtain ⟨a, ea⟩ := h.ex
  have w0 := natP hw
  obtain ⟨x, ex⟩ : ∃ x : Rat, x = q / (w : Rat) := ⟨_, rfl⟩
  have ex2 : x * (w : Rat) = q := by rw [ex]; grind
  have w1 : (1 : Rat) ≤ (w : Rat) := by exact_mod_cast hw
  have x0 : 0 ≤ x := by
    refine Rat.not_lt.mp fun z => ?_
    have := Rat.mul_pos (a := -x) (b := (w : Rat)) (by grind) w0
    have := h.nn
    grind
  rw [← ex]
  refine ⟨x0, ?_, a, by push_cast; grind⟩
  have h1 : x * 1 ≤ x * (w : Rat) := Rat.mul_le_mul_of_nonneg_left w1 x0
  have := h.le
  grind
theorem In.half {D M : Nat} {q : Rat} (h : In D M q) : In (D * 2) M (q * (1 / 2)) := by
  have := h.divN (w := 2) (by decide)
  have e : q / ((2 : Nat) : Rat) = q * (1 / 2) := by push_cast; grind
  rw [e] at this
  exact this
/-- the point on a line, its size -/
theorem In.onl {E M B : Nat} {g tl tu l u : Rat} (h0 : 0 < E) (hg : In E B g) (htl : In E B tl) (htu : In E B tu) (hl : In E M l) (hu : In E M u) (h1 : tl < g) (h2 : g ≤ tu) (h3 : l ≤ u) :
    ∃ X, 0 < X ∧ E ∣ X ∧ X ≤ E * (B * E) ∧ In X M (l + (g - tl) * (u - l) / (tu - tl)) ∧ In E B (g - tl) ∧ In E B (tu - tl) ∧ In E M (u - l) := by
  have ig := hg.sub htl (by grind)
  have ir := htu.sub htl (by grind)
  have iu := hu.sub hl h3
  obtain ⟨n1, e1⟩ := ig.ex
  obtain ⟨n3, e3⟩ := ir.ex
  obtain ⟨n2, e2⟩ := iu.ex
  obtain ⟨n0, e0⟩ := hl.ex
  have E0 := natP h0
  have r0 : 0 < tu - tl := by grind
  have n30 : 0 < n3 := by
    have h := Rat.mul_pos r0 E0
    rw [e3] at h
    exact_mod_cast h
  have n3m : n3 ≤ ((B * E : Nat) : Int) := by
    have h : (tu - tl) * (E : Rat) ≤ (B : Rat) * (E : Rat) := Rat.mul_le_mul_of_nonneg_right ir.le (by grind)
    rw [e3] at h
    have h2 : ((n3 : Int) : Rat) ≤ (((B * E : Nat) : Int) : Rat) := by push_cast; exact h
    exact_mod_cast h2
  have en : ((n3.toNat : Nat) : Int) = n3 := by omega
  have eq : ((n3.toNat : Nat) : Rat) = (n3 : Rat) := by rw [← en]; norm_cast
  refine ⟨E * n3.toNat, Nat.mul_pos h0 (by omega), Nat.dvd_mul_right _ _, Nat.mul_le_mul_left _ (by omega), ?_, ig, ir, iu⟩
  obtain ⟨y, ey⟩ : ∃ y, y = (g - tl) * (u - l) / (tu - tl) := ⟨_, rfl⟩
  have ey2 : y * (tu - tl) = (g - tl) * (u - l) := by rw [ey]; grind
  rw [← ey]
  have y0 : 0 ≤ y := by
    refine Rat.not_lt.mp fun z => ?_
    have h1 := Rat.mul_pos (a := -y) (b := tu - tl) (by grind) r0
    have h2 := Rat.mul_nonneg ig.nn iu.nn
    grind
  have y1 : y ≤ u - l := by
    refine Rat.not_lt.mp fun z => ?_
    have h1 := Rat.mul_pos (a := y - (u - l)) (b := tu - tl) (by grind) r0
    have h2 := Rat.mul_nonneg (a := tu - g) (b := u - l) (by grind) iu.nn
    grind
  refine ⟨by have := hl.nn; grind, by have := hu.le; grind, n0 * n3 + n1 * n2, ?_⟩
  have h5 : y * (E : Rat) * (n3 : Rat) = (n1 : Rat) * (n2 : Rat) := by
    rw [← e3, ← e1, ← e2]
    grind
  push_cast
  rw [eq, ← e0]
  grind

theorem sumQ_map_perm {rows rows' : List Row} (p : rows.Perm rows') (x : Rat) : tot rows x = tot rows' x := sumQ_perm (p.map fun r => r.at_ x)
theorem tot_perm {rows rows' : List Row} (p : rows.Perm rows') : tot rows = tot rows' := funext (sumQ_map_perm p)
/-- what a row may be -/
structure RowOk (D M : Nat) (r : Row) : Prop where
  w0 : 0 < r.w
  w12 : r.w ≤ 12
  b : In D M r.b
  m : ∀ l u, r.man = some (l, u) → In D M l ∧ In D M u
theorem RowOk.up {D D' M : Nat} {r : Row} (h : RowOk D M r) (hd : D ∣ D') : RowOk D' M r := ⟨h.w0, h.w12, h.b.up hd, fun l u e => ⟨(h.m l u e).1.up hd, (h.m l u e).2.up hd⟩⟩
theorem shq_in {X M N w : Nat} {man : Option (Rat × Rat)} {x : Rat} (hm : ∀ l u, man = some (l, u) → In X M l ∧ In X M u) (hx : In X N x) : In X M (shq man w x) := by
  cases man with
  | none => exact In.zero
  | some p =>
    obtain ⟨l, u⟩ := p
    obtain ⟨h1, h2⟩ := hm l u rfl
    exact h1.lmax (h2.lmin1 (hx.mulN w))
theorem RowOk.at_ {X M N : Nat} {r : Row} {x : Rat} (h : RowOk X M r) (hx : In X N x) : In X M (r.at_ x) := shq_in h.m (hx.lmin h.b)
theorem tot_in {X M N : Nat} {x : Rat} (hx : In X N x) : ∀ {rows : List Row}, (∀ r ∈ rows, RowOk X M r) → In X (rows.length * M) (tot rows x)
  | [], _ => In.zero
  | r :: rows, h => by
    rw [tot_cons]
    have h1 := (h r List.mem_cons_self).at_ hx
    have h2 := tot_in hx (rows := rows) fun r hr => h r (List.mem_cons_of_mem _ hr)
    have h3 := h1.add h2
    rw [List.length_cons, Nat.add_mul, Nat.one_mul, Nat.add_comm]
    exact h3
theorem in_brk {D M : Nat} {r : Row} (h : RowOk D M r) : ∀ p ∈ r.brk, In (D * 27720) M p := by
  have hw : D * r.w ∣ D * 27720 := Nat.mul_dvd_mul_left D (by
    have a := h.w0
    have b := h.w12
    generalize r.w = w at a b
    have : w = 1 ∨ w = 2 ∨ w = 3 ∨ w = 4 ∨ w = 5 ∨ w = 6 ∨ w = 7 ∨ w = 8 ∨ w = 9 ∨ w = 10 ∨ w = 11 ∨ w = 12 := by omega
    rcases this with rfl | rfl | rfl | rfl | rfl | rfl | rfl | rfl | rfl | rfl | rfl | rfl <;> decide)
  intro p hp
  unfold Row.brk at hp
  split at hp
  · rw [List.mem_singleton.mp hp]
    exact h.b.up (Nat.dvd_mul_right _ _)
  · rename_i l u e
    obtain ⟨h1, h2⟩ := h.m l u e
    simp only [List.mem_cons, List.not_mem_nil, or_false] at hp
    rcases hp with rfl | rfl | rfl
    · exact (h1.divN h.w0).up hw
    · exact (h2.divN h.w0).up hw
    · exact h.b.up (Nat.dvd_mul_right _ _)
end Yk

set_option maxHeartbeats 4000000
namespace Yk
open PySem PySem.Spec PyProof.Rows L2

section
variable {K : PySem.W.Frag} {H H1 : Hp} {Q : VK}
def ManIs (K : PySem.W.Frag) (H : Hp) (v : V) : Option (Rat × Rat) → Prop
  | none => ∃ a, v = .ref a ∧ SqT K H a []
  | some p => ∃ a v1 v2, v = .ref a ∧ SqT K H a [v1, v2] ∧ Am K H v1 p.1 ∧ Am K H v2 p.2
theorem ManIs.x {S : List Addr} {v : V} {man : Option (Rat × Rat)} (e : Ext S H H1) (h : ManIs K H v man) (hs : ∀ b ∈ S, ∃ l, H b = some (.lst l)) : ManIs K H1 v man := by
  cases man with
  | none => obtain ⟨a, rfl, h⟩ := h; exact ⟨a, rfl, tupX e h hs⟩
  | some p => obtain ⟨a, v1, v2, rfl, h, a1, a2⟩ := h; exact ⟨a, v1, v2, rfl, tupX e h hs, a1.x e hs, a2.x e hs⟩
theorem ManIs.x0 {v : V} {man : Option (Rat × Rat)} (e : Ext [] H H1) (h : ManIs K H v man) : ManIs K H1 v man := h.x e fun _ z => nomatch z
def RowIs (K : PySem.W.Frag) (H : Hp) (v : V) (r : Row) : Prop := ∃ a mv bv, v = .ref a ∧ SqT K H a [mv, .int (r.w : Int), bv] ∧ ManIs K H mv r.man ∧ Am K H bv r.b
theorem RowIs.x {S : List Addr} {v : V} {r : Row} (e : Ext S H H1) (h : RowIs K H v r) (hs : ∀ b ∈ S, ∃ l, H b = some (.lst l)) : RowIs K H1 v r := by
  obtain ⟨a, mv, bv, rfl, h, h1, h2⟩ := h
  exact ⟨a, mv, bv, rfl, tupX e h hs, h1.x e hs, h2.x e hs⟩
theorem RowIs.x0 {v : V} {r : Row} (e : Ext [] H H1) (h : RowIs K H v r) : RowIs K H1 v r := h.x e fun _ z => nomatch z
def RowsIs (K : PySem.W.Frag) (H : Hp) (xs : List V) (rows : List Row) : Prop := Rel (RowIs K H) xs rows
theorem RowsIs.x {S : List Addr} {xs : List V} {rows : List Row} (e : Ext S H H1) (h : RowsIs K H xs rows) (hs : ∀ b ∈ S, ∃ l, H b = some (.lst l)) : RowsIs K H1 xs rows := h.imp fun _ _ z => z.x e hs
theorem RowsIs.x0 {xs : List V} {rows : List Row} (e : Ext [] H H1) (h : RowsIs K H xs rows) : RowsIs K H1 xs rows := h.imp fun _ _ z => z.x0 e
theorem bagS {b : Bag} (hb : BagAt K H b) : ∀ c ∈ [b.a], ∃ l, H c = some (.lst l) := fun c hc => by rw [List.mem_singleton.mp hc]; exact hb.lst
theorem lstS1 {c : Addr} {l : List V} (h : H c = some (.lst l)) : ∀ x ∈ [c], ∃ l, H x = some (.lst l) := fun x hx => by rw [List.mem_singleton.mp hx]; exact ⟨l, h⟩
theorem extW {c : Addr} {o : HO} : Ext [c] H (upd H c o) := Ext.refl.at_ List.mem_cons_self
theorem Am.w {c : Addr} {l l' : List V} {v : V} {q : Rat} (h : H c = some (.lst l)) (a : Am K H v q) : Am K (upd H c (.lst l')) v q := a.x extW (lstS1 h)
theorem Ams.w {c : Addr} {l l' : List V} {v : List V} {q : List Rat} (h : H c = some (.lst l)) (a : Ams K H v q) : Ams K (upd H c (.lst l')) v q := a.x extW (lstS1 h)
theorem RowIs.w {c : Addr} {l l' : List V} {v : V} {r : Row} (h : H c = some (.lst l)) (a : RowIs K H v r) : RowIs K (upd H c (.lst l')) v r := a.x extW (lstS1 h)
theorem RowsIs.w {c : Addr} {l l' : List V} {v : List V} {r : List Row} (h : H c = some (.lst l)) (a : RowsIs K H v r) : RowsIs K (upd H c (.lst l')) v r := a.x extW (lstS1 h)
/-! equality -/
theorem dp_am {v : V} {q : Rat} (h : Am K H v q) : Dp K H v (.tuple [.int q.num, .int (q.den : Int)]) := by
  obtain ⟨a, rfl, h⟩ := h
  exact .tup h (.cons (.int _) (.cons (.int _) .nil))
theorem rat_eq {p q : Rat} : p = q ↔ p.num = q.num ∧ p.den = q.den := ⟨fun h => by rw [h]; exact ⟨rfl, rfl⟩, fun h => Rat.ext h.1 h.2⟩
theorem eq_am {v w : V} {p q : Rat} (h : Am K H v p) (g : Am K H w q) (k : Q (.bl (decide (p = q))) H) : rEqD K v w H Q := by
  refine ⟨_, _, dp_am h, dp_am g, rfl, rfl, ?_⟩
  have e : PyData.eqv (.tuple [.int p.num, .int (p.den : Int)]) (.tuple [.int q.num, .int (q.den : Int)]) = decide (p = q) := by
    rw [Bool.eq_iff_iff]
    simp [PyData.eqv, PyData.eqvAll, rat_eq]
    omega
  rw [e]
  exact k
theorem ne_am {v w : V} {p q : Rat} (h : Am K H v p) (g : Am K H w q) (k : Q (.bl (!decide (p = q))) H) : rNeD K v w H Q := by
  refine ⟨_, _, dp_am h, dp_am g, rfl, rfl, ?_⟩
  have e : PyData.eqv (.tuple [.int p.num, .int (p.den : Int)]) (.tuple [.int q.num, .int (q.den : Int)]) = decide (p = q) := by
    rw [Bool.eq_iff_iff]
    simp [PyData.eqv, PyData.eqvAll, rat_eq]
    omega
  rw [e]
  exact k
theorem eq_man {v : V} {man : Option (Rat × Rat)} {p : Addr} (h : ManIs K H v man) (g : SqT K H p []) (k : Q (.bl man.isNone) H) : rEqD K v (.ref p) H Q := by
  cases man with
  | none => obtain ⟨a, rfl, h⟩ := h; exact ⟨.tuple [], .tuple [], .tup h .nil, .tup g .nil, rfl, rfl, k⟩
  | some q => obtain ⟨a, v1, v2, rfl, h, a1, a2⟩ := h; exact ⟨_, .tuple [], .tup h (.cons (dp_am a1) (.cons (dp_am a2) .nil)), .tup g .nil, rfl, rfl, k⟩
theorem ne_man {v : V} {man : Option (Rat × Rat)} {p : Addr} (h : ManIs K H v man) (g : SqT K H p []) (k : Q (.bl (!man.isNone)) H) : rNeD K v (.ref p) H Q := by
  cases man with
  | none => obtain ⟨a, rfl, h⟩ := h; exact ⟨.tuple [], .tuple [], .tup h .nil, .tup g .nil, rfl, rfl, k⟩
  | some q => obtain ⟨a, v1, v2, rfl, h, a1, a2⟩ := h; exact ⟨_, .tuple [], .tup h (.cons (dp_am a1) (.cons (dp_am a2) .nil)), .tup g .nil, rfl, rfl, k⟩
theorem am_nat {a : Addr} {w : Nat} (h : SqT K H a [.int (w : Int), .int 1]) : Am K H (.ref a) (w : Rat) := ⟨a, rfl, h⟩
theorem sz_nat {w m : Nat} (h : w < 2 ^ m) (h0 : 0 < m) : Sz m (w : Rat) := ⟨h, Nat.lt_of_lt_of_le (by decide : 1 < 2 ^ 1) (Nat.pow_le_pow_right (by decide) h0)⟩
theorem mk_w (w : Nat) {q : Rat} (h : 0 ≤ q) : mkRat ((w * q.num.toNat : Nat) : Int) q.den = (w : Rat) * q := by
  have hn := num_nn h
  have e : ((w * q.num.toNat : Nat) : Int) = (w : Int) * q.num := by push_cast; rw [Int.toNat_of_nonneg hn]
  rw [e, Rat.mkRat_eq_div]
  have hd := natP q.den_pos
  have e2 : (q.num : Rat) / (q.den : Rat) = q := by rw [← Rat.mkRat_eq_div]; exact Rat.mkRat_self q
  push_cast
  grind
theorem maxQ1 (a b : Rat) : maxQ a [b] = lmax a b := (lmax_eq a b).symm
theorem minQ1 (a b : Rat) : minQ a [b] = lmin a b := rfl
theorem lmin_comm (a b : Rat) : lmin a b = lmin b a := by unfold lmin; grind
theorem lmax_comm (a b : Rat) : lmax a b = lmax b a := by unfold lmax; grind
theorem k_min2 {v w : V} {p q : Rat} {E : XK} (a : Am K H v p) (b : Am K H w q) (z1 : Sz 4000 p) (z2 : Sz 4000 q) (k : ∀ v H', Ext [] H H' → Am K H' v (lmin p q) → Q v H') : spMin minQ K [v, w] H Q E :=
  ⟨p, [q], Ams.cons a (Ams.cons b Ams.nil), fun x hx => by
    rcases List.mem_cons.mp hx with rfl | hx
    · exact z1
    · rw [List.mem_singleton.mp hx]; exact z2, by simp, k⟩
theorem k_max2 {v w : V} {p q : Rat} {E : XK} (a : Am K H v p) (b : Am K H w q) (z1 : Sz 4000 p) (z2 : Sz 4000 q) (k : ∀ v H', Ext [] H H' → Am K H' v (lmax p q) → Q v H') : spMin maxQ K [v, w] H Q E :=
  ⟨p, [q], Ams.cons a (Ams.cons b Ams.nil), fun x hx => by
    rcases List.mem_cons.mp hx with rfl | hx
    · exact z1
    · rw [List.mem_singleton.mp hx]; exact z2, by simp, fun v H' e c => k v H' e (by rw [← maxQ1]; exact c)⟩
theorem sz_min {m : Nat} {p q : Rat} (h : Sz m p) (g : Sz m q) : Sz m (lmin p q) := by unfold lmin; split <;> assumption
theorem sz_max {m : Nat} {p q : Rat} (h : Sz m p) (g : Sz m q) : Sz m (lmax p q) := by unfold lmax; split <;> assumption
end
section
variable {P : Program} {w : World} {K : PySem.W.Frag} {mg : Str → Option Value} {base : Heap} {f : Addr} {fd : FuncData}
def ManSz (n : Nat) (man : Option (Rat × Rat)) : Prop := ∀ l u, man = some (l, u) → Sz n l ∧ Sz n u
def spShare (K : PySem.W.Frag) : Sp := fun vs H Q _ => ∃ (m x : V) (wt : Nat) (man : Option (Rat × Rat)) (q : Rat), vs = [m, .int (wt : Int), x] ∧ ManIs K H m man ∧ Am K H x q ∧ wt ≤ 12 ∧ ManSz 2000 man ∧ Sz 2000 q ∧ RetAm K H Q (shq man wt q)
/-- rows of shares, carried through a list of them -/
theorem rowSz {X M j m : Nat} {r : Row} (h : RowOk X M r) (h0 : 0 < X) (hX : X ≤ 2 ^ j) (hM : M ≤ 2 ^ m) : ManSz (j + m + 1) r.man ∧ Sz (j + m + 1) r.b := ⟨fun l u e => ⟨(h.m l u e).1.sz h0 hX hM, (h.m l u e).2.sz h0 hX hM⟩, h.b.sz h0 hX hM⟩
/-- amounts in the row, all in step -/
structure TotOk (X M N : Nat) (rows : List Row) (x : Rat) : Prop where
  X0 : 0 < X
  X9 : X ≤ 2 ^ 400
  M9 : M ≤ 2 ^ 20
  N9 : N ≤ 2 ^ 120
  row : ∀ r ∈ rows, RowOk X M r
  x : In X N x
  n : rows.length ≤ 8
def spTotal (K : PySem.W.Frag) : Sp := fun vs H Q _ => ∃ (a : Addr) (xs : List V) (rows : List Row) (v : V) (x : Rat) (X M N : Nat), vs = [.ref a, v] ∧ SqQ K H a xs ∧ RowsIs K H xs rows ∧ Am K H v x ∧ TotOk X M N rows x ∧ RetAm K H Q (tot rows x)
theorem take_map {α : Type} {f : Row → α} {rows : List Row} {i : Nat} {r : Row} (h : rows[i]? = some r) : (rows.take (i + 1)).map f = (rows.take i).map f ++ [f r] := by
  obtain ⟨hl, e⟩ := List.getElem?_eq_some_iff.mp h
  rw [← List.take_append_getElem hl, List.map_append, e]
  rfl
end
end Yk

set_option maxHeartbeats 4000000
namespace Yk
open PySem PySem.Spec PyProof.Rows L2
/-! Dicts: the general part. What stands through a lock, walks over keys, values and items, comprehensions; tables. -/
/-! What stands through the lock of a dict. -/
theorem tupD {K : PySem.W.Frag} {H H1 : Hp} {a t : Addr} {kv : List (Key × V)} {xs : List V} (e : Ext [a] H H1) (ha : H a = some (.dK kv)) (h : SqT K H t xs) : SqT K H1 t xs := by
  have ne : ∀ o, H t = some o → (∀ kv, o ≠ .dK kv) → t ∉ [a] := fun o ho hn z => by
    rw [List.mem_singleton.mp z, ha] at ho
    exact hn _ (Option.some.inj ho).symm
  rcases h with (h | ⟨o, h⟩) | h
  · exact .inl (.inl (e _ _ h (ne _ h fun _ z => nomatch z)))
  · exact .inl (.inr ⟨o, e _ _ h (ne _ h fun _ z => nomatch z)⟩)
  · exact .inr h
theorem Am.d {K : PySem.W.Frag} {H H1 : Hp} {a : Addr} {kv : List (Key × V)} {v : V} {q : Rat} (e : Ext [a] H H1) (ha : H a = some (.dK kv)) (h : Am K H v q) : Am K H1 v q := by
  obtain ⟨t, rfl, h⟩ := h
  exact ⟨t, rfl, tupD e ha h⟩
theorem sqqD {K : PySem.W.Frag} {H H1 : Hp} {a t : Addr} {kv : List (Key × V)} {xs : List V} (e : Ext [a] H H1) (ha : H a = some (.dK kv)) (h : SqQ K H t xs) : SqQ K H1 t xs := by
  rcases h with h | h
  · refine .inl ?_
    have ne : ∀ o, H t = some o → (∀ kv, o ≠ .dK kv) → t ∉ [a] := fun o ho hn z => by
      rw [List.mem_singleton.mp z, ha] at ho
      exact hn _ (Option.some.inj ho).symm
    rcases h with (h | ⟨o, h⟩) | h
    · exact .inl (.inl (e _ _ h (ne _ h fun _ z => nomatch z)))
    · exact .inl (.inr ⟨o, e _ _ h (ne _ h fun _ z => nomatch z)⟩)
    · exact .inr h
  · exact .inr (tupD e ha h)
theorem Ams.d {K : PySem.W.Frag} {H H1 : Hp} {a : Addr} {kv : List (Key × V)} {vs : List V} {qs : List Rat} (e : Ext [a] H H1) (ha : H a = some (.dK kv)) (h : Ams K H vs qs) : Ams K H1 vs qs := ⟨h.1, fun i v q a b => (h.2 i v q a b).d e ha⟩
/-- no tuple stands at these -/
def NoTup (H : Hp) (S : List Addr) : Prop := ∀ b ∈ S, ∃ o, H b = some o ∧ (∀ xs, o ≠ .tup xs) ∧ ∀ u xs, o ≠ .frz u (.tup xs)
theorem tupF {S : List Addr} {K : PySem.W.Frag} {H H1 : Hp} {a : Addr} {xs : List V} (e : Ext S H H1) (h : SqT K H a xs) (hs : NoTup H S) : SqT K H1 a xs := by
  rcases h with (h | ⟨o, h⟩) | h
  · exact .inl (.inl (e a _ h fun z => by obtain ⟨o, q, n, _⟩ := hs a z; rw [h] at q; cases q; exact n _ rfl))
  · exact .inl (.inr ⟨o, e a _ h fun z => by obtain ⟨o, q, _, n⟩ := hs a z; rw [h] at q; cases q; exact n _ _ rfl⟩)
  · exact .inr h
theorem Am.f {S : List Addr} {K : PySem.W.Frag} {H H1 : Hp} {v : V} {q : Rat} (e : Ext S H H1) (hs : NoTup H S) (h : Am K H v q) : Am K H1 v q := by
  obtain ⟨a, rfl, h⟩ := h
  exact ⟨a, rfl, tupF e h hs⟩
/-- no list stands at these -/
def NoLst (H : Hp) (S : List Addr) : Prop := ∀ b ∈ S, ∃ o, H b = some o ∧ (∀ xs, o ≠ .lst xs) ∧ ∀ u xs, o ≠ .frz u (.lst xs)
theorem lstF {S : List Addr} {K : PySem.W.Frag} {H H1 : Hp} {a : Addr} {xs : List V} (e : Ext S H H1) (h : SqL K H a xs) (hs : NoLst H S) : SqL K H1 a xs := by
  rcases h with (h | ⟨o, h⟩) | h
  · exact .inl (.inl (e a _ h fun z => by obtain ⟨o, q, n, _⟩ := hs a z; rw [h] at q; cases q; exact n _ rfl))
  · exact .inl (.inr ⟨o, e a _ h fun z => by obtain ⟨o, q, _, n⟩ := hs a z; rw [h] at q; cases q; exact n _ _ rfl⟩)
  · exact .inr h
theorem BagAt.f {S : List Addr} {K : PySem.W.Frag} {H H1 : Hp} {b : Bag} (h : BagAt K H b) (e : Ext S H H1) (hs : NoLst H S) : BagAt K H1 b := by
  obtain ⟨l, h1, h2, h3, h4⟩ := h.ex
  exact ⟨l, e _ _ h1 fun z => (by obtain ⟨o, q, n, _⟩ := hs _ z; rw [h1] at q; cases q; exact n _ rfl), lstF e h2 hs, h3, h4⟩
theorem no_ins {H : Hp} {a C dx : Addr} {fs : List (Str × V)} (h : H a = some (.ins C dx fs)) : NoTup H [a] ∧ NoLst H [a] :=
  ⟨fun b hb => by rw [List.mem_singleton.mp hb]; exact ⟨_, h, (fun _ z => nomatch z), fun _ _ z => nomatch z⟩, fun b hb => by rw [List.mem_singleton.mp hb]; exact ⟨_, h, (fun _ z => nomatch z), fun _ _ z => nomatch z⟩⟩
theorem no_dk {H : Hp} {a : Addr} {l : List (Key × V)} (h : H a = some (.dK l)) : NoTup H [a] ∧ NoLst H [a] :=
  ⟨fun b hb => by rw [List.mem_singleton.mp hb]; exact ⟨_, h, (fun _ z => nomatch z), fun _ _ z => nomatch z⟩, fun b hb => by rw [List.mem_singleton.mp hb]; exact ⟨_, h, (fun _ z => nomatch z), fun _ _ z => nomatch z⟩⟩
theorem no_lst {H : Hp} {a : Addr} {l : List V} (h : H a = some (.lst l)) : NoTup H [a] := fun b hb => by rw [List.mem_singleton.mp hb]; exact ⟨_, h, (fun _ z => nomatch z), fun _ _ z => nomatch z⟩
theorem NoTup.app {H : Hp} {S T : List Addr} (h : NoTup H S) (g : NoTup H T) : NoTup H (S ++ T) := fun b hb => (List.mem_append.mp hb).elim (h b) (g b)
/-- a table by keys -/
def gv {κ α : Type} [DecidableEq κ] (c : List (κ × α)) (k : κ) : Option α := (c.find? fun p => decide (p.1 = k)).map (·.2)
def gp {κ α : Type} [DecidableEq κ] (c : List (κ × α)) (k : κ) (y : α) : List (κ × α) := if (c.any fun p => decide (p.1 = k)) = true then c.map (fun p => if p.1 = k then (p.1, y) else p) else c ++ [(k, y)]
/-- two tables with the same keys, their values alike -/
inductive TR {κ α : Type} (R : V → α → Prop) : List (κ × V) → List (κ × α) → Prop
  | nil : TR R [] []
  | cons {k : κ} {v : V} {y : α} {l : List (κ × V)} {c : List (κ × α)} : R v y → TR R l c → TR R ((k, v) :: l) ((k, y) :: c)
section
variable {κ α : Type} [DecidableEq κ] {R R' : V → α → Prop} {l : List (κ × V)} {c : List (κ × α)} {k : κ} {v : V} {y : α}
theorem TR.imp (f : ∀ v y, R v y → R' v y) (h : TR R l c) : TR R' l c := by
  induction h with
  | nil => exact .nil
  | cons a _ ih => exact .cons (f _ _ a) ih
theorem TR.len (h : TR R l c) : l.length = c.length := by
  induction h with
  | nil => rfl
  | cons a _ ih => simp [ih]
theorem TR.val (h : TR R l c) (k : κ) : (valV l k = none ∧ gv c k = none) ∨ ∃ v y, valV l k = some v ∧ gv c k = some y ∧ R v y := by
  induction h with
  | nil => exact .inl ⟨rfl, rfl⟩
  | @cons k' v y l c a _ ih =>
    by_cases e : k' = k
    · subst e
      exact .inr ⟨v, y, valV_pos rfl, by simp [gv], a⟩
    · have e1 : gv ((k', y) :: c) k = gv c k := by simp [gv, List.find?_cons, e]
      rw [valV_neg (p := (k', v)) e, e1]
      exact ih
theorem TR.any (h : TR R l c) (k : κ) : (l.any fun p => decide (p.1 = k)) = (c.any fun p => decide (p.1 = k)) := by
  induction h with
  | nil => rfl
  | cons a _ ih => rw [List.any_cons, List.any_cons, ih]
theorem TR.repl (h : TR R l c) (a : R v y) : TR R (l.map fun kv => if kv.1 = k then (kv.1, v) else kv) (c.map fun p => if p.1 = k then (p.1, y) else p) := by
  induction h with
  | nil => exact .nil
  | @cons k' v' y' l c b _ ih =>
    rw [List.map_cons, List.map_cons]
    by_cases e : k' = k
    · rw [if_pos e, if_pos e]; exact .cons a ih
    · rw [if_neg e, if_neg e]; exact .cons b ih
theorem TR.app {l2 : List (κ × V)} {c2 : List (κ × α)} (h : TR R l c) (g : TR R l2 c2) : TR R (l ++ l2) (c ++ c2) := by
  induction h with
  | nil => exact g
  | cons b _ ih => exact .cons b ih
theorem TR.put (h : TR R l c) (a : R v y) : TR R (putK l k v) (gp c k y) := by
  unfold putK gp
  rw [h.any k]
  split
  · exact h.repl a
  · exact h.app (.cons a .nil)
end
section
variable {K : PySem.W.Frag} {H : Hp} {Q : VK} {σ : L2.St} {wi : TI} {g : TG} {tt : TT} {tk tv td ty : TE} {vs : List Nat}
theorem r_dget (h : td σ H fun x H1 => ty σ H1 fun y H2 => ∃ a v, x = .ref a ∧ DGet H2 a y (some v) ∧ Q v H2) : tDGet td ty σ H Q := h
theorem r_dc (h : wi σ H fun J H1 => ∀ D, H1 D = none → ∃ W : Nat → Nat → Hp → Prop, (∃ m, W 0 m (upd H1 D (.dK []))) ∧ ∀ i m H, W i m H →
  (J.stop i H ∧ Q (.ref D) H) ∨ (J.go i H ∧ ∃ Nx : Hp → Prop, (∀ H', Nx H' → ∃ m', m' < m ∧ W (i + 1) m' H') ∧ ∀ x H', J.yld i H x H' → g x (wipe σ vs) H' fun σ2 H2 => wipe σ2 vs = wipe σ vs ∧ tt σ2 H2 fun b H3 =>
    if b = true then tk σ2 H3 fun y H4 => tv σ2 H4 fun z H5 => ∃ kvs k, y = kV k ∧ H5 D = some (.dK kvs) ∧ kvs.length < sizeLine ∧ Nx (upd H5 D (.dK (putK kvs k z))) else Nx H3)) : tDc wi g tt tk tv vs σ H Q := h
theorem r_dcL {a : Addr} {xs : List V} {D : Addr} {Qd : Hp → Prop} (Pv : Nat → Hp → Prop) (h0 : Pv 0 (upd H D (.dK []))) (hl : ∀ i H, i ≤ xs.length → Pv i H → SqL K H a xs)
    (hs : ∀ i x H, xs[i]? = some x → Pv i H → g x (wipe σ vs) H fun σ2 H2 => wipe σ2 vs = wipe σ vs ∧ tt σ2 H2 fun b H3 =>
      if b = true then tk σ2 H3 fun y H4 => tv σ2 H4 fun z H5 => ∃ kvs k, y = kV k ∧ H5 D = some (.dK kvs) ∧ kvs.length < sizeLine ∧ Pv (i + 1) (upd H5 D (.dK (putK kvs k z))) else Pv (i + 1) H3) (hd : ∀ H, Pv xs.length H → Qd H) :
    ∃ W : Nat → Nat → Hp → Prop, (∃ m, W 0 m (upd H D (.dK []))) ∧ ∀ i m H, W i m H →
      ((Itl K a).stop i H ∧ Qd H) ∨ ((Itl K a).go i H ∧ ∃ Nx : Hp → Prop, (∀ H', Nx H' → ∃ m', m' < m ∧ W (i + 1) m' H') ∧ ∀ x H', (Itl K a).yld i H x H' → g x (wipe σ vs) H' fun σ2 H2 => wipe σ2 vs = wipe σ vs ∧ tt σ2 H2 fun b H3 =>
        if b = true then tk σ2 H3 fun y H4 => tv σ2 H4 fun z H5 => ∃ kvs k, y = kV k ∧ H5 D = some (.dK kvs) ∧ kvs.length < sizeLine ∧ Nx (upd H5 D (.dK (putK kvs k z))) else Nx H3) := by
  refine ⟨fun i m H => m = xs.length - i ∧ i ≤ xs.length ∧ Pv i H, ⟨xs.length, by simp, Nat.zero_le _, h0⟩, ?_⟩
  rintro i m H ⟨rfl, hi, p⟩
  have q := hl i H hi p
  by_cases hlt : i < xs.length
  · refine .inr ⟨⟨xs, xs[i], q, by simp [hlt]⟩, Pv (i + 1), fun H' p' => ⟨xs.length - (i + 1), by omega, rfl, hlt, p'⟩, fun x H' y => ?_⟩
    obtain ⟨e, y⟩ := y
    subst e
    exact hs i x _ (y xs q) p
  · have e : i = xs.length := by omega
    subst e
    exact .inl ⟨⟨xs, q, Nat.le_refl _⟩, hd H p⟩
end
section
variable {nx : L2.St → Hp → Prop} {rt : VK} {bk ct : L2.St → Hp → Prop} {σ : L2.St} {H : Hp} {g : TG} {t : TS} {td ty : TE} {Q : VK}
theorem r_lock {d : Addr} {kv : List (Key × V)} (hd : H d = some (.dK kv)) (h : ∀ od, t ⟨fun σ' H' => H' d = some (.frz od (.dK kv)) ∧ nx σ' (upd H' d (.dK kv)), fun v H' => H' d = some (.frz od (.dK kv)) ∧ rt v (upd H' d (.dK kv)), fun σ' H' => H' d = some (.frz od (.dK kv)) ∧ bk σ' (upd H' d (.dK kv)), fun σ' H' => H' d = some (.frz od (.dK kv)) ∧ ct σ' (upd H' d (.dK kv))⟩ σ (upd H d (.frz od (.dK kv)))) :
    tLock t ⟨nx, rt, bk, ct⟩ σ H := ⟨d, _, hd, trivial, h⟩
theorem r_iVals {R : It → Hp → Prop} (h : td σ H fun x H1 => ∃ d o kvs, x = .ref d ∧ H1 d = some (.frz o (.dK kvs)) ∧ R (Itd d o kvs) H1) : iVals td σ H R := h
theorem r_dnotin (h : ty σ H fun y H1 => td σ H1 fun x H2 => ∃ a o, x = .ref a ∧ DGet H2 a y o ∧ Q (.bl (!o.isSome)) H2) : tDNotIn ty td σ H Q := h
theorem r_din (h : ty σ H fun y H1 => td σ H1 fun x H2 => ∃ a o, x = .ref a ∧ DGet H2 a y o ∧ Q (.bl o.isSome) H2) : tDIn ty td σ H Q := h
theorem r_loopD {d : Addr} {o : Obj} {kv : List (Key × V)} (Pv : Nat → L2.St → Hp → Prop) (h0 : Pv 0 σ H) (hl : ∀ i σ H, i ≤ kv.length → Pv i σ H → H d = some (.frz o (.dK kv)))
    (hs : ∀ (i : Nat) (k : Key) (x : V) (σ : L2.St) (H : Hp), kv[i]? = some (k, x) → Pv i σ H → g x σ H fun σ2 H2 => t ⟨Pv (i + 1), rt, nx, Pv (i + 1)⟩ σ2 H2) (hd : ∀ σ H, Pv kv.length σ H → nx σ H) :
    ∃ W : Nat → Nat → L2.St → Hp → Prop, (∃ m, W 0 m σ H) ∧ ∀ i m σ H, W i m σ H →
      ((Itd d o kv).stop i H ∧ nx σ H) ∨ ((Itd d o kv).go i H ∧ ∃ N : L2.St → Hp → Prop, (∀ σ' H', N σ' H' → ∃ m', m' < m ∧ W (i + 1) m' σ' H') ∧ ∀ x H', (Itd d o kv).yld i H x H' → g x σ H' fun σ2 H2 => t ⟨N, rt, nx, N⟩ σ2 H2) :=
  for_it (D := ⟨nx, rt, nx, nx⟩) walk_values Pv h0 hl (fun i x σ H H' _ p y => by
    obtain ⟨rfl, k, hk⟩ := y
    exact hs i k x σ _ hk p) hd
/-- a dict that was locked stands as before -/
theorem ext_unlock {d : Addr} {u : HO} {H1 : Hp} (hd : H d = some u) (e : Ext [d] H H1) : Ext [] H (upd H1 d u) := fun b o hb _ => by
  by_cases q : d = b
  · subst q
    rw [hd] at hb
    rw [upd_same]
    exact hb
  · rw [upd_ne (Ne.symm q)]
    exact e b o hb fun z => q (List.mem_singleton.mp z).symm
end
section
variable {K : PySem.W.Frag} {H : Hp} {Q : VK} {σ : L2.St} {td : TE} {te : TE} {g : TG} {tt : TT} {vs : List Nat}
theorem r_lockE {t : TE} {d : Addr} {kv : List (Key × V)} (hd : H d = some (.dK kv)) (h : ∀ od, t σ (upd H d (.frz od (.dK kv))) fun v H' => H' d = some (.frz od (.dK kv)) ∧ Q v (upd H' d (.dK kv))) : tLockE t σ H Q := ⟨d, _, hd, trivial, h⟩
theorem r_iItems {R : It → Hp → Prop} (h : td σ H fun x H1 => ∃ d o kvs, x = .ref d ∧ H1 d = some (.frz o (.dK kvs)) ∧ R (Iti d o kvs) H1) : iItems td σ H R := h
theorem r_lcI {d : Addr} {o : Obj} {kv : List (Key × V)} {D : Addr} {Qd : Hp → Prop} (Pv : Nat → Hp → Prop) (h0 : Pv 0 (upd H D (.lst []))) (hl : ∀ i H, i ≤ kv.length → Pv i H → H d = some (.frz o (.dK kv)))
    (hs : ∀ (i : Nat) (k : Key) (x : V) (T : Addr) (H : Hp), kv[i]? = some (k, x) → Pv i H → H T = none → g (.ref T) (wipe σ vs) (upd H T (.tup [kV k, x])) fun σ2 H2 => wipe σ2 vs = wipe σ vs ∧ tt σ2 H2 fun b H3 =>
      if b = true then te σ2 H3 fun y H4 => ∃ acc, H4 D = some (.lst acc) ∧ acc.length < sizeLine ∧ Pv (i + 1) (upd H4 D (.lst (acc ++ [y]))) else Pv (i + 1) H3) (hd : ∀ H, Pv kv.length H → Qd H) :
    ∃ W : Nat → Nat → Hp → Prop, (∃ m, W 0 m (upd H D (.lst []))) ∧ ∀ i m H, W i m H →
      ((Iti d o kv).stop i H ∧ Qd H) ∨ ((Iti d o kv).go i H ∧ ∃ Nx : Hp → Prop, (∀ H', Nx H' → ∃ m', m' < m ∧ W (i + 1) m' H') ∧ ∀ x H', (Iti d o kv).yld i H x H' → g x (wipe σ vs) H' fun σ2 H2 => wipe σ2 vs = wipe σ vs ∧ tt σ2 H2 fun b H3 =>
        if b = true then te σ2 H3 fun y H4 => ∃ acc, H4 D = some (.lst acc) ∧ acc.length < sizeLine ∧ Nx (upd H4 D (.lst (acc ++ [y]))) else Nx H3) :=
  lc_it walk_items Pv h0 hl (fun i x H H' hi p y => by
    obtain ⟨T, a, b, rfl, hT, rfl, ha, hb⟩ := y
    dsimp only at ha hb
    rw [List.getElem?_eq_getElem hi] at ha hb
    obtain rfl := Option.some.inj ha
    obtain rfl := Option.some.inj hb
    exact hs i kv[i].1 kv[i].2 T H (List.getElem?_eq_getElem hi) p hT) hd
end
section
variable {K : PySem.W.Frag} {nx : L2.St → Hp → Prop} {rt : VK} {σ : L2.St} {H : Hp} {g : TG} {tt : TT} {tk tv : TE} {t : TS} {vs : List Nat}
theorem r_dcK {d : Addr} {o : Obj} {kv : List (Key × V)} {D : Addr} {Qd : Hp → Prop} (Pv : Nat → Hp → Prop) (h0 : Pv 0 (upd H D (.dK []))) (hl : ∀ i H, i ≤ kv.length → Pv i H → H d = some (.frz o (.dK kv)))
    (hs : ∀ (i : Nat) (k : Key) (x : V) (H : Hp), kv[i]? = some (k, x) → Pv i H → g (kV k) (wipe σ vs) H fun σ2 H2 => wipe σ2 vs = wipe σ vs ∧ tt σ2 H2 fun b H3 =>
      if b = true then tk σ2 H3 fun y H4 => tv σ2 H4 fun z H5 => ∃ kvs k, y = kV k ∧ H5 D = some (.dK kvs) ∧ kvs.length < sizeLine ∧ Pv (i + 1) (upd H5 D (.dK (putK kvs k z))) else Pv (i + 1) H3) (hd : ∀ H, Pv kv.length H → Qd H) :
    ∃ W : Nat → Nat → Hp → Prop, (∃ m, W 0 m (upd H D (.dK []))) ∧ ∀ i m H, W i m H →
      ((Itk d o kv).stop i H ∧ Qd H) ∨ ((Itk d o kv).go i H ∧ ∃ Nx : Hp → Prop, (∀ H', Nx H' → ∃ m', m' < m ∧ W (i + 1) m' H') ∧ ∀ x H', (Itk d o kv).yld i H x H' → g x (wipe σ vs) H' fun σ2 H2 => wipe σ2 vs = wipe σ vs ∧ tt σ2 H2 fun b H3 =>
        if b = true then tk σ2 H3 fun y H4 => tv σ2 H4 fun z H5 => ∃ kvs k, y = kV k ∧ H5 D = some (.dK kvs) ∧ kvs.length < sizeLine ∧ Nx (upd H5 D (.dK (putK kvs k z))) else Nx H3) := by
  refine ⟨fun i m H => m = kv.length - i ∧ i ≤ kv.length ∧ Pv i H, ⟨kv.length, by simp, Nat.zero_le _, h0⟩, ?_⟩
  rintro i m H ⟨rfl, hi, p⟩
  have q := hl i H hi p
  by_cases hlt : i < kv.length
  · refine .inr ⟨⟨q, hlt⟩, Pv (i + 1), fun H' p' => ⟨kv.length - (i + 1), by omega, rfl, hlt, p'⟩, fun x H' y => ?_⟩
    obtain ⟨rfl, k, v, hk, rfl⟩ := y
    exact hs i k v _ hk p
  · have e : i = kv.length := by omega
    subst e
    exact .inl ⟨⟨q, Nat.le_refl _⟩, hd H p⟩
theorem r_loopI {d : Addr} {o : Obj} {kv : List (Key × V)} (Pv : Nat → L2.St → Hp → Prop) (h0 : Pv 0 σ H) (hl : ∀ i σ H, i ≤ kv.length → Pv i σ H → H d = some (.frz o (.dK kv)))
    (hs : ∀ (i : Nat) (k : Key) (x : V) (T : Addr) (σ : L2.St) (H : Hp), kv[i]? = some (k, x) → Pv i σ H → H T = none → g (.ref T) σ (upd H T (.tup [kV k, x])) fun σ2 H2 => t ⟨Pv (i + 1), rt, nx, Pv (i + 1)⟩ σ2 H2) (hd : ∀ σ H, Pv kv.length σ H → nx σ H) :
    ∃ W : Nat → Nat → L2.St → Hp → Prop, (∃ m, W 0 m σ H) ∧ ∀ i m σ H, W i m σ H →
      ((Iti d o kv).stop i H ∧ nx σ H) ∨ ((Iti d o kv).go i H ∧ ∃ N : L2.St → Hp → Prop, (∀ σ' H', N σ' H' → ∃ m', m' < m ∧ W (i + 1) m' σ' H') ∧ ∀ x H', (Iti d o kv).yld i H x H' → g x σ H' fun σ2 H2 => t ⟨N, rt, nx, N⟩ σ2 H2) := by
  refine ⟨fun i m σ H => m = kv.length - i ∧ i ≤ kv.length ∧ Pv i σ H, ⟨kv.length, by simp, Nat.zero_le _, h0⟩, ?_⟩
  rintro i m σ H ⟨rfl, hi, p⟩
  have q := hl i σ H hi p
  by_cases hlt : i < kv.length
  · refine .inr ⟨⟨q, hlt⟩, Pv (i + 1), fun σ' H' p' => ⟨kv.length - (i + 1), by omega, rfl, hlt, p'⟩, fun x H' y => ?_⟩
    obtain ⟨T, k, v, hk, rfl, hT, rfl⟩ := y
    exact hs i k v T σ _ hk p hT
  · have e : i = kv.length := by omega
    subst e
    exact .inl ⟨⟨q, Nat.le_refl _⟩, hd σ H p⟩
end
section
variable {K : PySem.W.Frag} {nx : L2.St → Hp → Prop} {rt : VK} {bk ct : L2.St → Hp → Prop} {σ : L2.St} {H : Hp} {Q : VK} {td ty tv tx : TE}
theorem r_tget1 (h : td σ H fun x H1 => ∃ a, x = .ref a ∧ IsD H1 a ∧ ty σ H1 fun y H2 => ∃ o, DGet H2 a y o ∧ Q (o.getD .non) H2) : tDGet1 td ty σ H Q := h
theorem r_tget2 (h : td σ H fun x H1 => ∃ a, x = .ref a ∧ IsD H1 a ∧ ty σ H1 fun y H2 => tx σ H2 fun z H3 => ∃ o, DGet H3 a y o ∧ Q (o.getD z) H3) : tDGet2 td ty tx σ H Q := h
theorem r_prp2 {C a dx : Addr} {fs : List (Str × V)} {R : Addr → Prop} (h1 : H a = some (.ins C dx fs)) (h : R a) : ∃ a' dx' fs', V.ref a = .ref a' ∧ H a' = some (.ins C dx' fs') ∧ R a' := ⟨a, dx, fs, rfl, h1, h⟩
theorem r_dnT (h : ∀ p, H p = none → Q (.ref p) (upd H p (.dT []))) : tDNewT σ H Q := h
theorem r_dput (h : tv σ H fun v H1 => td σ H1 fun x H2 => ty σ H2 fun y H3 => ∃ a H4, x = .ref a ∧ DPut H3 a y v H4 ∧ nx σ H4) : sDPut td ty tv ⟨nx, rt, bk, ct⟩ σ H := h
end
theorem upd_over {H : Hp} {a d : Addr} {x y z : HO} (h : d ≠ a) : upd (upd (upd H a x) d y) a z = upd (upd H d y) a z := by
  funext b
  by_cases q : b = a
  · subst q; rw [upd_same, upd_same]
  · by_cases p : b = d
    · subst p; rw [upd_ne q, upd_same, upd_ne q, upd_same]
    · rw [upd_ne q, upd_ne p, upd_ne q, upd_ne q, upd_ne p]
section
variable {K : PySem.W.Frag} {nx : L2.St → Hp → Prop} {rt : VK} {bk ct : L2.St → Hp → Prop} {σ : L2.St} {H : Hp} {Q : VK} {g : TG} {tt : TT} {tk tv te td : TE} {vs : List Nat} {ta : TA}
theorem r_dcI {d : Addr} {o : Obj} {kv : List (Key × V)} {D : Addr} {Qd : Hp → Prop} (Pv : Nat → Hp → Prop) (h0 : Pv 0 (upd H D (.dK []))) (hl : ∀ i H, i ≤ kv.length → Pv i H → H d = some (.frz o (.dK kv)))
    (hs : ∀ (i : Nat) (k : Key) (x : V) (T : Addr) (H : Hp), kv[i]? = some (k, x) → Pv i H → H T = none → g (.ref T) (wipe σ vs) (upd H T (.tup [kV k, x])) fun σ2 H2 => wipe σ2 vs = wipe σ vs ∧ tt σ2 H2 fun b H3 =>
      if b = true then tk σ2 H3 fun y H4 => tv σ2 H4 fun z H5 => ∃ kvs k, y = kV k ∧ H5 D = some (.dK kvs) ∧ kvs.length < sizeLine ∧ Pv (i + 1) (upd H5 D (.dK (putK kvs k z))) else Pv (i + 1) H3) (hd : ∀ H, Pv kv.length H → Qd H) :
    ∃ W : Nat → Nat → Hp → Prop, (∃ m, W 0 m (upd H D (.dK []))) ∧ ∀ i m H, W i m H →
      ((Iti d o kv).stop i H ∧ Qd H) ∨ ((Iti d o kv).go i H ∧ ∃ Nx : Hp → Prop, (∀ H', Nx H' → ∃ m', m' < m ∧ W (i + 1) m' H') ∧ ∀ x H', (Iti d o kv).yld i H x H' → g x (wipe σ vs) H' fun σ2 H2 => wipe σ2 vs = wipe σ vs ∧ tt σ2 H2 fun b H3 =>
        if b = true then tk σ2 H3 fun y H4 => tv σ2 H4 fun z H5 => ∃ kvs k, y = kV k ∧ H5 D = some (.dK kvs) ∧ kvs.length < sizeLine ∧ Nx (upd H5 D (.dK (putK kvs k z))) else Nx H3) := by
  refine ⟨fun i m H => m = kv.length - i ∧ i ≤ kv.length ∧ Pv i H, ⟨kv.length, by simp, Nat.zero_le _, h0⟩, ?_⟩
  rintro i m H ⟨rfl, hi, p⟩
  have q := hl i H hi p
  by_cases hlt : i < kv.length
  · refine .inr ⟨⟨q, hlt⟩, Pv (i + 1), fun H' p' => ⟨kv.length - (i + 1), by omega, rfl, hlt, p'⟩, fun x H' y => ?_⟩
    obtain ⟨T, k, v, hk, rfl, hT, rfl⟩ := y
    exact hs i k v T _ hk p hT
  · have e : i = kv.length := by omega
    subst e
    exact .inl ⟨⟨q, Nat.le_refl _⟩, hd H p⟩
theorem r_lcK {d : Addr} {o : Obj} {kv : List (Key × V)} {D : Addr} {Qd : Hp → Prop} (Pv : Nat → Hp → Prop) (h0 : Pv 0 (upd H D (.lst []))) (hl : ∀ i H, i ≤ kv.length → Pv i H → H d = some (.frz o (.dK kv)))
    (hs : ∀ (i : Nat) (k : Key) (x : V) (H : Hp), kv[i]? = some (k, x) → Pv i H → g (kV k) (wipe σ vs) H fun σ2 H2 => wipe σ2 vs = wipe σ vs ∧ tt σ2 H2 fun b H3 =>
      if b = true then te σ2 H3 fun y H4 => ∃ acc, H4 D = some (.lst acc) ∧ acc.length < sizeLine ∧ Pv (i + 1) (upd H4 D (.lst (acc ++ [y]))) else Pv (i + 1) H3) (hd : ∀ H, Pv kv.length H → Qd H) :
    ∃ W : Nat → Nat → Hp → Prop, (∃ m, W 0 m (upd H D (.lst []))) ∧ ∀ i m H, W i m H →
      ((Itk d o kv).stop i H ∧ Qd H) ∨ ((Itk d o kv).go i H ∧ ∃ Nx : Hp → Prop, (∀ H', Nx H' → ∃ m', m' < m ∧ W (i + 1) m' H') ∧ ∀ x H', (Itk d o kv).yld i H x H' → g x (wipe σ vs) H' fun σ2 H2 => wipe σ2 vs = wipe σ vs ∧ tt σ2 H2 fun b H3 =>
        if b = true then te σ2 H3 fun y H4 => ∃ acc, H4 D = some (.lst acc) ∧ acc.length < sizeLine ∧ Nx (upd H4 D (.lst (acc ++ [y]))) else Nx H3) := by
  refine ⟨fun i m H => m = kv.length - i ∧ i ≤ kv.length ∧ Pv i H, ⟨kv.length, by simp, Nat.zero_le _, h0⟩, ?_⟩
  rintro i m H ⟨rfl, hi, p⟩
  have q := hl i H hi p
  by_cases hlt : i < kv.length
  · refine .inr ⟨⟨q, hlt⟩, Pv (i + 1), fun H' p' => ⟨kv.length - (i + 1), by omega, rfl, hlt, p'⟩, fun x H' y => ?_⟩
    obtain ⟨rfl, k, v, hk, rfl⟩ := y
    exact hs i k v _ hk p
  · have e : i = kv.length := by omega
    subst e
    exact .inl ⟨⟨q, Nat.le_refl _⟩, hd H p⟩
theorem r_iKeys {R : It → Hp → Prop} {d : Addr} {o : Obj} {kvs : List (Key × V)} (hd : H d = some (.frz o (.dK kvs))) (h : R (Itk d o kvs) H) : ∃ d' o', V.ref d = .ref d' ∧ ((∃ kvs, H d' = some (.frz o' (.dK kvs)) ∧ R (Itk d' o' kvs) H) ∨ ∃ kvs, H d' = some (.frz o' (.dT kvs)) ∧ R (Itkt d' o' kvs) H) := ⟨d, o, rfl, .inl ⟨kvs, hd, h⟩⟩
theorem r_iKeysT {R : It → Hp → Prop} (h : td σ H fun x H1 => ∃ d o, x = .ref d ∧ ((∃ kvs, H1 d = some (.frz o (.dK kvs)) ∧ R (Itk d o kvs) H1) ∨ ∃ kvs, H1 d = some (.frz o (.dT kvs)) ∧ R (Itkt d o kvs) H1)) : iKeys td σ H R := h
theorem r_disp1 (h : ∀ p, H p = none → tk σ (upd H p (.dK [])) fun x H1 => tv σ H1 fun y H2 => H2 p = some (.dK []) ∧ ∃ kvs : List (Key × V), [(x, y)] = kvs.map (fun kv => (kV kv.1, kv.2)) ∧ kvs.length ≤ 15 ∧ Q (.ref p) (upd H2 p (.dK (mergeK [] kvs)))) : tDisp [(tk, tv)] σ H Q := h
theorem r_dnK (h : ∀ p, H p = none → Q (.ref p) (upd H p (.dK []))) : tDNewK σ H Q := h
theorem r_par3 {i j l : Nat} (h : ta σ H fun vs H1 => ∃ u v w, vs = [u, v, w] ∧ nx (((σ.set i (some u)).set j (some v)).set l (some w)) H1) : tPar3 i j l ta ⟨nx, rt, bk, ct⟩ σ H := h
theorem r_par3e {u v w : V} {R : V → V → V → Prop} (h : R u v w) : ∃ u' v' w', [u, v, w] = [u', v', w'] ∧ R u' v' w' := ⟨u, v, w, rfl, h⟩
theorem r_dict {p : Addr} {kvs : List (Key × V)} (h1 : H p = some (.dK kvs)) (h : ∀ l, H l = none → Q (.ref l) (upd H l (.dK kvs))) : ∃ (a : Addr) (kvs : List (Key × V)), [V.ref p] = [V.ref a] ∧ Rd H a (.dK kvs) ∧ ∀ p, H p = none → Q (.ref p) (upd H p (.dK kvs)) := ⟨p, kvs, rfl, .inl h1, h⟩
end
end Yk

set_option maxHeartbeats 2000000
namespace Yk
open PySem PySem.Spec PyProof.Rows L2

/-! The law's own helpers from k28 on: the bag, the draws. -/
theorem seed_sq {seed : Int} (h0 : 0 ≤ seed) (h1 : seed < 2147483629) : CMulW seed seed := cmul (m := 32) (n := 32) (by omega) (by omega) (by decide) (by decide) (by decide)
section
variable {P : Program} {w : World} {K : PySem.W.Frag} {mg : Str → Option Value} {base : Heap} {f : Addr} {fd : FuncData}
abbrev s_law_bag : Stmt := top 8
theorem c_law_bag : FnScope ["_law_script", "_law_seed", "_law_cell"] ["_law_script"] (defScope s_law_bag) := ⟨rfl, rfl, rfl, by decide +kernel, rfl, by decide +kernel, by decide +kernel⟩
theorem f_law_bag (F : FunD K "_law_bag" "_law_bag" (defArgs s_law_bag) (defBody s_law_bag) (defScope s_law_bag) [] [] f fd) (hm : mg "_law_bag" = some (.ref f)) (T : Bt mg) : Fn P w K mg base 1 "_law_bag" (spBag K) := by
  refine fn_def F hm c_law_bag (fun vs H Q E h => ?_) (fun _ _ _ _ _ _ us hl => match us, hl with | [_], _ => rfl) (fun cdv A outer s H vs Q E hr h => ?_)
  · obtain ⟨a, ns, rfl, _⟩ := h
    rfl
  · obtain ⟨a, ns, rfl, ha, hns, k⟩ := h
    have nd := c_law_bag.nd
    refine ⟨_, (pss_cons (ps_set (i := 1) nd rfl (by first | exact Or.inl rfl | exact Or.inr rfl) pe_int)
      (pss_cons (ps_for PassesOwn.never rfl (pi_list (pe_slice sl_list (pv 0) po_none (po_some pe_int))) (pg_name (i := 2) nd rfl (by first | exact Or.inl rfl | exact Or.inr rfl))
        (pss_one (ps_set (i := 1) nd rfl (by first | exact Or.inl rfl | exact Or.inr rfl) (pe_op op_mod (pe_callTy call_int1 (by rfl) T.int (by decide +kernel) (pa_cons (pe_op op_add (pe_op op_add (pe_op op_mul (pv 1) pe_int) (pe_op op_mod (pe_callTy call_int1 (by rfl) T.int (by decide +kernel) (pa_cons (pv 2) pa_nil)) pe_int)) pe_int) pa_nil)) pe_int))))
      (pss_one (ps_ret (pe_lst (pa_cons (pe_callTy cr_list (by rfl) T.list (by decide +kernel) (pa_cons (pe_slice sl_list (pv 0) po_none (po_some pe_int)) pa_nil)) (pa_cons pe_int (pa_cons pe_int (pa_cons (pv 1) (pa_cons pe_int pa_nil)))))))))), ?_⟩
    show (_ : TS) _ [some _, none, none] _
    try dsimp only [cxOf, Cx.nox]
    have hc : cutV (ns.map V.int) none (some 63) = ns.map V.int := cut_all (by rw [List.length_map]; exact hns)
    walk_at "go"
    refine r_for ?_
    refine r_iList ?_
    walk_at "go"
    refine r_slList ha fun p hp => ?_
    rw [hc]
    refine ⟨p, rfl, ⟨_, lstS⟩, r_loopL (xs := ns.map V.int) (fun i σ H1 => H1 = upd H p (.lst (ns.map V.int)) ∧ ∃ seed u, σ = [some (.ref a), some (.int seed), u] ∧ 0 ≤ seed ∧ seed < 2147483629) ⟨rfl, 13965, none, rfl, by decide, by decide⟩ (fun i σ H1 _ h => by rw [h.1]; exact lstS) ?_ ?_⟩
    · rintro i x σ H1 hx ⟨rfl, seed, u, rfl, h0, h1⟩
      obtain ⟨z, rfl⟩ : ∃ z, x = V.int z := by
        rw [List.getElem?_map] at hx
        cases e : ns[i]? with
        | none => rw [e] at hx; cases hx
        | some z => rw [e] at hx; exact ⟨z, (Option.some.inj hx).symm⟩
      walk_at "go"
      have hm := modI (seed * 69621 + z % 2147483629 + 17) (n := 2147483587) (by decide)
      exact ⟨rfl, _, _, rfl, hm.1, by omega⟩
    · rintro σ H1 ⟨rfl, seed, u, rfl, h0, h1⟩
      walk_at "go"
      refine r_slList (lstN ha hp) fun p2 hp2 => ?_
      rw [hc]
      walk_at "go"
      refine r_list (.inl lstS) fun l hl => ?_
      walk_at "go"
      have x3 := ((Ext.refl (S := []) (H := H)).new hp).new hp2 |>.new (o := .lst (ns.map V.int)) hl
      exact k ⟨_, l, ns⟩ _ (x3.free (by assumption)) (x3.new (by assumption)) (bag_ex (pos := 0) upd_same (lstN lstS (by assumption)) hns (Nat.zero_le _) (Int.le_refl _) h0 h1)
abbrev s_law_draw : Stmt := top 9
theorem c_law_draw : FnScope ["_law_bag_here", "_law_many", "_law_cell", "_law_digit", "_law_seed"] ["_law_bag_here", "_law_many"] (defScope s_law_draw) := ⟨rfl, rfl, rfl, by decide +kernel, rfl, by decide +kernel, by decide +kernel⟩
theorem f_law_draw (F : FunD K "_law_draw" "_law_draw" (defArgs s_law_draw) (defBody s_law_draw) (defScope s_law_draw) [] [] f fd) (hm : mg "_law_draw" = some (.ref f)) (T : Bt mg) : Fn P w K mg base 1 "_law_draw" (spDraw K) := by
  refine fn_def F hm c_law_draw (fun vs H Q E h => ?_) (fun _ _ _ _ _ _ us hl => match us, hl with | [_, _], _ => rfl) (fun cdv A outer s H vs Q E hr h => ?_)
  · obtain ⟨b, n, rfl, _⟩ := h
    rfl
  · obtain ⟨⟨b, it, ns⟩, n, rfl, hn, hn2, ⟨l, hb, hi, hns, pos, rest, seed, cnt, rfl, hp, hr0, hs0, hs1⟩, k⟩ := h
    have nd := c_law_draw.nd
    dsimp only at hb hi hns hp k
    refine ⟨_, (pss_cons (ps_asg (pe_op op_add (pe_ix ix_list (pv 0) pe_int (fun _ _ => rfl)) pe_int) (pg_sub (pv 0) pe_int set_list))
      (pss_mid (ps_if (PW.pt (pw_and (pt_cmpR op_eq (pe_ix ix_list (pv 0) pe_int (fun _ _ => rfl)) pe_int (nomark _)) (pw_and1 (pt_cmpR op_lt (pe_ix ix_list (pv 0) pe_int (fun _ _ => rfl)) (pe_callB cr_len (by rfl) T.len (by decide +kernel) (pa_cons (pe_ix ix_list (pv 0) pe_int (fun _ _ => rfl)) pa_nil)) (nomark _)))))
        (pss_cons (ps_set (i := 2) nd rfl (by first | exact Or.inl rfl | exact Or.inr rfl) (pe_ix ix_list (pe_ix ix_list (pv 0) pe_int (fun _ _ => rfl)) (pe_ix ix_list (pv 0) pe_int (fun _ _ => rfl)) (fun _ _ => rfl)))
        (pss_cons (ps_asg (pe_op op_add (pe_ix ix_list (pv 0) pe_int (fun _ _ => rfl)) pe_int) (pg_sub (pv 0) pe_int set_list))
        (pss_one (ps_if (pt_cmpR op_ge (pv 2) (pe_op op_pow pe_int pe_int) (nomark _))
          (pss_one (ps_asg (pv 2) (pg_sub (pv 0) pe_int set_list)))
          (pss_one (ps_asg (pe_op op_mod (pe_callTy call_int1 (by rfl) T.int (by decide +kernel) (pa_cons (pe_op op_add (pe_op op_add (pe_op op_mul (pe_ix ix_list (pv 0) pe_int (fun _ _ => rfl)) pe_int) (pe_op op_mul (pe_op op_mod (pe_callTy call_int1 (by rfl) T.int (by decide +kernel) (pa_cons (pv 2) pa_nil)) pe_int) pe_int)) pe_int) pa_nil)) pe_int) (pg_sub (pv 0) pe_int set_list)))))))
        pss_nil)
      (pss_cons (ps_if (pt_cmpR op_gt (pe_ix ix_list (pv 0) pe_int (fun _ _ => rfl)) pe_int (nomark _))
        (pss_cons (ps_set (i := 3) nd rfl (by first | exact Or.inl rfl | exact Or.inr rfl) (pe_op op_mod (pe_callTy call_int1 (by rfl) T.int (by decide +kernel) (pa_cons (pe_ix ix_list (pv 0) pe_int (fun _ _ => rfl)) pa_nil)) (pv 1)))
        (pss_cons (ps_asg (pe_op op_fdivW (pe_ix ix_list (pv 0) pe_int (fun _ _ => rfl)) (pv 1)) (pg_sub (pv 0) pe_int set_list))
        (pss_one (ps_ret (pv 3)))))
        pss_nil)
      (pss_cons (ps_set (i := 4) nd rfl (by first | exact Or.inl rfl | exact Or.inr rfl) (pe_ix ix_list (pv 0) pe_int (fun _ _ => rfl)))
      (pss_cons (ps_asg (pe_op op_mod (pe_callTy call_int1 (by rfl) T.int (by decide +kernel) (pa_cons (pe_op op_add (pe_op op_add (pe_op op_add (pe_op op_mul (pe_op op_mulW (pv 4) (pv 4)) pe_int) (pe_op op_mul (pv 4) pe_int)) (pe_op op_mul (pe_ix ix_list (pv 0) pe_int (fun _ _ => rfl)) pe_int)) pe_int) pa_nil)) pe_int) (pg_sub (pv 0) pe_int set_list))
      (pss_one (ps_ret (pe_op op_mod (pe_callTy call_int1 (by rfl) T.int (by decide +kernel) (pa_cons (pe_op op_add (pe_op op_fdivW (pe_ix ix_list (pv 0) pe_int (fun _ _ => rfl)) pe_int) (pe_op op_mul (pe_op op_mod (pe_callTy call_int1 (by rfl) T.int (by decide +kernel) (pa_cons (pe_ix ix_list (pv 0) pe_int (fun _ _ => rfl)) pa_nil)) pe_int) pe_int)) pa_nil)) (pv 1))))))))), ?_⟩
    show (_ : TS) _ [some _, some _, none, none, none] _
    try dsimp only [cxOf, Cx.nox]
    have bb : SqL K H b [.ref it, .int (pos : Int), .int rest, .int seed, .int cnt] := .inl (.inl hb)
    walk_at "go"
    refine r_setB (K := K) hb rfl _ rfl (fun H1 hb1 e1 c1 => ?_)
    have bb1 : SqL K H1 b [.ref it, .int (pos : Int), .int rest, .int seed, .int (cnt + 1)] := .inl (.inl hb1)
    have hi1 := c1 _ _ hi (ns_ne _ _ _)
    refine r_mid (fun σ H2 => ∃ (u : Option V) (pos' : Nat) (rest' seed' : Int), σ = [some (.ref b), some (.int n), u, none, none] ∧ H2 b = some (.lst [.ref it, .int (pos' : Int), .int rest', .int seed', .int (cnt + 1)]) ∧ SqL K H2 it (ns.map V.int) ∧ Ext [b] H H2 ∧ pos' ≤ ns.length ∧ 0 ≤ rest' ∧ 0 ≤ seed' ∧ seed' < 2147483629) ?_ ?_
    · walk_at "go"
      refine r_dec (fun hrest => ?_) (fun hrest => ?_)
      · walk_at "go"
        refine r_dec (fun hpos => ?_) (fun hpos => ?_)
        · have hpn : pos < ns.length := by rw [List.length_map] at hpos; omega
          walk_at "go"
          refine r_ixL hi1 (at_map hpn) ?_
          walk_at "go"
          refine r_setB (K := K) hb1 rfl _ rfl (fun H2 hb2 e2 c2 => ?_)
          have bb2 : SqL K H2 b [.ref it, .int ((pos : Int) + 1), .int rest, .int seed, .int (cnt + 1)] := .inl (.inl hb2)
          have hi2 := c2 _ _ hi1 (ns_ne _ _ _)
          walk_at "go"
          refine r_dec (fun hge => ?_) (fun hge => ?_)
          · walk_at "go"
            refine r_setB (K := K) hb2 rfl _ rfl (fun H3 hb3 e3 c3 => ?_)
            exact ⟨_, pos + 1, ns[pos], seed, rfl, by rw [Int.natCast_add]; exact hb3, c3 _ _ hi2 (ns_ne _ _ _), (e1.trans e2).trans e3, hpn, Int.le_trans (by decide) hge, hs0, hs1⟩
          · walk_at "go"
            refine r_setB (K := K) hb2 rfl _ rfl (fun H3 hb3 e3 c3 => ?_)
            have hm := modI (seed * 39373 + ns[pos] % 2147483549 * 24571 + 59) (n := 2147483579) (by decide)
            exact ⟨_, pos + 1, rest, _, rfl, by rw [Int.natCast_add]; exact hb3, c3 _ _ hi2 (ns_ne _ _ _), (e1.trans e2).trans e3, hpn, hr0, hm.1, by omega⟩
        · walk_at "go"
          exact ⟨_, pos, rest, seed, rfl, hb1, hi1, e1, hp, hr0, hs0, hs1⟩
      · walk_at "go"
        exact ⟨_, pos, rest, seed, rfl, hb1, hi1, e1, hp, hr0, hs0, hs1⟩
    · rintro σ H2 ⟨u, pos', rest', seed', rfl, hb2, hi2, e2, hp2, hr2, hs2, hs3⟩
      have bb2 : SqL K H2 b [.ref it, .int (pos' : Int), .int rest', .int seed', .int (cnt + 1)] := .inl (.inl hb2)
      walk_at "go"
      refine r_dec (fun hpos => ?_) (fun hpos => ?_)
      · have d1 : CDivW rest' n := wide_div hn (b := 400) (by omega) (by decide) (by decide)
        walk_at "go"
        refine r_setB (K := K) hb2 rfl _ rfl (fun H3 hb3 e3 c3 => ?_)
        walk_at "go"
        have hm := modI rest' hn
        exact k _ H3 hm.1 hm.2 (bag_ex hb3 (c3 _ _ hi2 (ns_ne _ _ _)) hns hp2 (Int.ediv_nonneg hr2 (by omega)) hs2 hs3) (e2.trans e3)
      · have c4 := seed_sq hs2 hs3
        walk_at "go"
        refine r_setB (K := K) hb2 rfl _ rfl (fun H3 hb3 e3 c3 => ?_)
        have hm := modI (seed' * seed' * 29 + seed' * 48673 + (cnt + 1) * 1500007 + 70001) (n := 2147483579) (by decide)
        have bb3 : SqL K H3 b [.ref it, .int (pos' : Int), .int rest', .int ((seed' * seed' * 29 + seed' * 48673 + (cnt + 1) * 1500007 + 70001) % 2147483579), .int (cnt + 1)] := .inl (.inl hb3)
        walk_at "go"
        have hm2 := modI ((seed' * seed' * 29 + seed' * 48673 + (cnt + 1) * 1500007 + 70001) % 2147483579 / 101 + (seed' * seed' * 29 + seed' * 48673 + (cnt + 1) * 1500007 + 70001) % 2147483579 % 6007 * 83) hn
        exact k _ H3 hm2.1 hm2.2 (bag_ex hb3 (c3 _ _ hi2 (ns_ne _ _ _)) hns hp2 hr2 hm.1 (by omega)) (e2.trans e3)
abbrev s_law_mixed : Stmt := top 11
theorem c_law_mixed : FnScope ["_law_bag_here", "_law_things", "_law_found", "_law_thing"] ["_law_bag_here", "_law_things"] (defScope s_law_mixed) := ⟨rfl, rfl, rfl, by decide +kernel, rfl, by decide +kernel, by decide +kernel⟩
theorem f_law_mixed (F : FunD K "_law_mixed" "_law_mixed" (defArgs s_law_mixed) (defBody s_law_mixed) (defScope s_law_mixed) [] [] f fd) (hm : mg "_law_mixed" = some (.ref f)) (T : Bt mg) (F_law_draw : Fn P w K mg base 1 "_law_draw" (spDraw K)) : Fn P w K mg base 2 "_law_mixed" (spMixed K) := by
  refine fn_def F hm c_law_mixed (fun vs H Q E h => ?_) (fun _ _ _ _ _ _ us hl => match us, hl with | [_, _], _ => rfl) (fun cdv A outer s H vs Q E hr h => ?_)
  · obtain ⟨b, l, xs, rfl, _⟩ := h
    rfl
  · obtain ⟨b, l, xs, rfl, hb, hl, hne, h4, k⟩ := h
    have nd := c_law_mixed.nd
    refine ⟨_, (pss_cons (ps_set (i := 2) nd rfl (by first | exact Or.inl rfl | exact Or.inr rfl) (pe_lst pa_nil))
      (pss_cons (ps_for PassesOwn.never rfl (pi_list (pv 1)) (pg_name (i := 3) nd rfl (by first | exact Or.inl rfl | exact Or.inr rfl))
        (pss_one (ps_expr (pe_bm PySem.F.plainAttrs_list PySem.F.slot_list_insert PySem.F.type_list_insert mt_insert (pv 2) (pa_cons (pe_fn F_law_draw (hr.mono (by decide)) (pa_cons (pv 0) (pa_cons (pe_op op_add (pe_callB cr_len (by rfl) T.len (by decide +kernel) (pa_cons (pv 2) pa_nil)) pe_int) pa_nil))) (pa_cons (pv 3) pa_nil))))))
      (pss_one (ps_ret (pv 2))))), ?_⟩
    show (_ : TS) _ [some _, some _, none, none] _
    try dsimp only [cxOf, Cx.nox]
    walk_at "go"
    rename_i p hp
    have nbp : p ≠ b.a := fun z => hb.ne hp z.symm
    refine r_for ?_
    refine r_iList ?_
    walk_at "go"
    refine ⟨l, rfl, ⟨_, lstN hl hp⟩, r_loopL (xs := xs) (fun i σ H1 => ∃ (ys : List V) (u : Option V), σ = [some (.ref b.a), some (.ref l), some (.ref p), u] ∧ H1 p = some (.lst ys) ∧ ys.Perm (xs.take i) ∧ BagAt K H1 b ∧ Ext [b.a] H H1) ⟨[], none, rfl, upd_same, by simp, hb.new hp, Ext.refl.new hp⟩ (fun i σ H1 _ h => ?_) ?_ ?_⟩
    · obtain ⟨ys, u, _, _, _, _, e1⟩ := h
      exact lstX e1 hl (by simpa using fun z => hne z.symm)
    · rintro i x σ H1 hx ⟨ys, u, rfl, hys, hperm, hb1, e1⟩
      have hi : i < xs.length := (List.getElem?_eq_some_iff.mp hx).1
      have hyl : ys.length = i := by rw [hperm.length_eq, List.length_take]; omega
      walk_at "go"
      refine ⟨.inl ⟨rfl, _, .inl (.inl hys)⟩, ?_⟩
      walk_at "go"
      refine r_len (.inl (.inl (.inl hys))) ?_
      walk_at "go"
      refine ⟨b, _, rfl, by omega, Int.lt_of_le_of_lt (by omega : (ys.length : Int) + 1 ≤ 4001) (by decide), hb1, fun z H2 z0 z1 hb2 e2 => ?_⟩
      walk_at "go"
      have hp2 : H2 p = some (.lst ys) := e2 _ _ hys (by simpa using nbp)
      refine ⟨p, ys, z, x, rfl, rfl, hp2, Nat.lt_of_le_of_lt (by omega : ys.length ≤ 4000) (by decide), z0, Int.lt_of_lt_of_le z1 (by omega), ?_⟩
      walk_at "go"
      refine ⟨_, _, rfl, upd_same, ?_, hb.own hp hb2, (e1.trans e2).own hp⟩
      rw [List.take_add_one, hx]
      show (ys.take z.toNat ++ [x] ++ ys.drop z.toNat).Perm (xs.take i ++ [x])
      rw [List.append_assoc]
      refine (List.perm_middle (a := x) (l₁ := ys.take z.toNat) (l₂ := ys.drop z.toNat)).trans ?_
      rw [List.take_append_drop]
      exact (List.perm_append_comm (l₁ := [x]) (l₂ := ys)).trans (hperm.append_right [x])
    · rintro σ H1 ⟨ys, u, rfl, hys, hperm, hb1, e1⟩
      rw [List.take_length] at hperm
      walk_at "go"
      exact k p ys H1 hperm hp hys hb1 e1
end
end Yk

set_option maxHeartbeats 2000000
namespace Yk
open PySem PySem.Spec PyProof.Rows L2

/-! The law's own arithmetic from k28 on. -/
def spLess (K : PySem.W.Frag) : Sp := fun vs H Q _ => ∃ v1 v2 p q, vs = [v1, v2] ∧ Am K H v1 p ∧ Am K H v2 q ∧ Sz 4000 p ∧ Sz 4000 q ∧ Q (.bl (decide (p < q))) H
def restQ (p q : Rat) : Rat := if p ≤ q then 0 else p - q
section
variable {P : Program} {w : World} {K : PySem.W.Frag} {mg : Str → Option Value} {base : Heap} {f : Addr} {fd : FuncData}
abbrev s_law_amount : Stmt := top 12
theorem c_law_amount : FnScope ["_law_top", "_law_bottom", "_law_one", "_law_two"] ["_law_top", "_law_bottom"] (defScope s_law_amount) := ⟨rfl, rfl, rfl, by decide +kernel, rfl, by decide +kernel, by decide +kernel⟩
theorem f_law_amount (F : FunD K "_law_amount" "_law_amount" (defArgs s_law_amount) (defBody s_law_amount) (defScope s_law_amount) [] [] f fd) (hm : mg "_law_amount" = some (.ref f)) (T : Bt mg) : Fn P w K mg base 1 "_law_amount" (spPair K) := by
  refine fn_def F hm c_law_amount (fun vs H Q E h => ?_) (fun _ _ _ _ _ _ us hl => match us, hl with | [_, _], _ => rfl) (fun cdv A outer s H vs Q E hr h => ?_)
  · obtain ⟨a, b, rfl, _⟩ := h
    rfl
  · obtain ⟨a, b, rfl, hb, la, lb, k⟩ := h
    have nd := c_law_amount.nd
    refine ⟨_, (pss_cons (ps_par (i := 2) (j := 3) (by rfl) nd rfl rfl (by decide) rfl rfl (pa_cons (pv 0) (pa_cons (pv 1) pa_nil)) (by rfl))
      (pss_cons (ps_while PassesOwn.never (pt_cmpR op_gt (pv 3) pe_int (nomark _))
        (pss_one (ps_par (i := 2) (j := 3) (by rfl) nd rfl rfl (by decide) rfl rfl (pa_cons (pv 3) (pa_cons (pe_op op_mod (pe_callTy call_int1 (by rfl) T.int (by decide +kernel) (pa_cons (pv 2) pa_nil)) (pv 3)) pa_nil)) (by rfl))))
      (pss_one (ps_ret (pe_tup (pa_cons (pe_op op_fdivW (pv 0) (pv 2)) (pa_cons (pe_op op_fdivW (pv 1) (pv 2)) pa_nil))))))), ?_⟩
    show (_ : TS) _ [some _, some _, none, none] _
    try dsimp only [cxOf, Cx.nox]
    walk_at "go"
    refine r_while (fun m σ H1 => H1 = H ∧ ∃ x y : Nat, y = m ∧ 0 < x + y ∧ σ = [some (.int (a : Int)), some (.int (b : Int)), some (.int (x : Int)), some (.int (y : Int))] ∧ Nat.gcd x y = Nat.gcd a b) b ⟨rfl, a, b, rfl, by omega, rfl, rfl⟩ ?_
    rintro m σ H1 ⟨rfl, x, y, rfl, hxy, rfl, hg⟩
    walk_at "go"
    refine r_dec (fun hy => ?_) (fun hy => ?_)
    · have hy' : 0 < y := by omega
      refine ⟨fun σ H' => H' = H1 ∧ σ = [some (.int (a : Int)), some (.int (b : Int)), some (.int (y : Int)), some (.int ((x % y : Nat) : Int))], ?_, ?_⟩
      · rintro σ' H' ⟨rfl, rfl⟩
        refine ⟨x % y, Nat.mod_lt _ hy', rfl, y, x % y, rfl, by omega, rfl, ?_⟩
        rw [← hg, Nat.gcd_comm x y, Nat.gcd_rec y x, Nat.gcd_comm]
      · walk_at "go"
        exact ⟨rfl, rfl⟩
    · have y0 : y = 0 := by omega
      subst y0
      rw [Nat.gcd_zero_right] at hg
      have hx : 0 < x := by omega
      have lx : x < 2 ^ 8900 := Nat.lt_of_le_of_lt (by rw [hg]; exact Nat.gcd_le_right _ hb) lb
      have d1 : ∀ i : Int, CDivW i (x : Int) := fun i => cdiv hx lx (by decide) (by decide)
      walk_at "go"
      refine r_I (d1 _) ?_
      walk_at "go"
      refine r_I (d1 _) ?_
      walk_at "go"
      refine k _ _ (Ext.refl.new (by assumption)) ⟨_, rfl, ?_⟩
      obtain ⟨x1, x2⟩ := mk_parts a b hb
      rw [x1, x2, ← hg]
      simp only [Int.natCast_ediv]
      exact tupS
theorem mk_subH (p q : Rat) : mkRat (p.num * q.den - q.num * p.den) (p.den * q.den) = p - q := by rw [Rat.sub_eq_add_neg, Rat.add_def, Rat.normalize_eq_mkRat, Rat.neg_num, Rat.neg_den, Int.neg_mul, Int.sub_eq_add_neg]
theorem le_cross (p q : Rat) : p ≤ q ↔ p.num * (q.den : Int) - q.num * (p.den : Int) ≤ 0 := by
  have h1 := Rat.lt_iff q p
  have h2 : p ≤ q ↔ ¬ q < p := Rat.not_lt.symm
  rw [h2, h1]
  omega
theorem mk_rest (p q : Rat) : mkRat ((max (p.num * (q.den : Int) - q.num * (p.den : Int)) 0).toNat : Int) (p.den * q.den) = restQ p q := by
  unfold restQ
  by_cases h : p ≤ q
  · have h2 := (le_cross p q).mp h
    rw [if_pos h, Int.max_eq_right h2]
    simp
  · have h2 : ¬ (p.num * (q.den : Int) - q.num * (p.den : Int) ≤ 0) := fun z => h ((le_cross p q).mpr z)
    rw [if_neg h, Int.max_eq_left (by omega), Int.toNat_of_nonneg (by omega), mk_subH]
theorem max_if (a : Int) : (if 0 > a then 0 else a) = max a 0 := by omega
theorem rest_nn (p q : Rat) : 0 ≤ restQ p q := by
  unfold restQ
  split
  · exact Rat.le_refl
  · grind
def gmax (p q : Rat) : Rat := if p < q then q else p
/-- an amount times a fraction of numbers -/
def spScaled (K : PySem.W.Frag) : Sp := fun vs H Q _ => ∃ (v : V) (q : Rat) (a b : Nat), vs = [v, .int (a : Int), .int (b : Int)] ∧ Am K H v q ∧ 0 ≤ q ∧ 0 < b ∧ Sz 4000 q ∧ a < 2 ^ 400 ∧ b < 2 ^ 400 ∧ RetAm K H Q (q * mkRat a b)
theorem mk_scaled (q : Rat) (a b : Nat) : mkRat (q.num * (a : Int)) (q.den * b) = q * mkRat a b := by
  conv => rhs; rw [← Rat.mkRat_self q]
  rw [Rat.mkRat_mul_mkRat]
end
end Yk

set_option maxHeartbeats 4000000
namespace Yk
open PySem PySem.Spec PyProof.Rows L2

/-! _law_same: data that is alike. -/
section
variable {P : Program} {w : World} {K : PySem.W.Frag} {mg : Str → Option Value} {base : Heap} {f : Addr} {fd : FuncData}
abbrev s_law_same : Stmt := top 13
theorem c_law_same : FnScope ["_law_told", "_law_due", "_law_one", "_law_two"] ["_law_told", "_law_due"] (defScope s_law_same) := ⟨rfl, rfl, rfl, by decide +kernel, rfl, by decide +kernel, by decide +kernel⟩
theorem f_law_same (F : FunD K "_law_same" "_law_same" (defArgs s_law_same) (defBody s_law_same) (defScope s_law_same) [] [] f fd) (hm : mg "_law_same" = some (.ref f)) (T : Bt mg) (n : Nat) (F_law_same : Fn P w K mg base n "_law_same" (spLike K n)) : Fn P w K mg base (n+1) "_law_same" (spLike K (n + 1)) := by
  refine fn_def F hm c_law_same (fun vs H Q E h => ?_) (fun _ _ _ _ _ _ us hl => match us, hl with | [_, _], _ => rfl) (fun cdv A outer s H vs Q E hr h => ?_)
  · obtain ⟨v1, v2, rfl, _⟩ := h
    rfl
  · obtain ⟨v1, v2, rfl, he, k⟩ := h
    have nd := c_law_same.nd
    refine ⟨_, (pss_cons (ps_if (pt_val (pe_callB call_isiT (by rfl) T.isinstance (by decide +kernel) (pa_cons (pv 1) (pa_cons (pe_tup (pa_cons (pe_bltn (v := .ty "tuple") (by rfl) T.tuple (by decide +kernel) rfl) (pa_cons (pe_bltn (v := .ty "list") (by rfl) T.list (by decide +kernel) rfl) pa_nil))) pa_nil))))
        (pss_cons (ps_if (PW.pt (pw_or (pt_cmpR op_ne (pe_callB call_isi (by rfl) T.isinstance (by decide +kernel) (pa_cons (pv 0) (pa_cons (pe_bltn (v := .ty "tuple") (by rfl) T.tuple (by decide +kernel) rfl) pa_nil))) (pe_callB call_isi (by rfl) T.isinstance (by decide +kernel) (pa_cons (pv 1) (pa_cons (pe_bltn (v := .ty "tuple") (by rfl) T.tuple (by decide +kernel) rfl) pa_nil))) (nomark _)) (pw_or1 (pt_cmpR op_ne (pe_callB call_isi (by rfl) T.isinstance (by decide +kernel) (pa_cons (pv 0) (pa_cons (pe_bltn (v := .ty "list") (by rfl) T.list (by decide +kernel) rfl) pa_nil))) (pe_callB call_isi (by rfl) T.isinstance (by decide +kernel) (pa_cons (pv 1) (pa_cons (pe_bltn (v := .ty "list") (by rfl) T.list (by decide +kernel) rfl) pa_nil))) (nomark _)))))
          (pss_one (ps_ret pe_bl))
          pss_nil)
        (pss_one (ps_ret (pe_and (pe_cmpR op_eq (pe_callB cr_len (by rfl) T.len (by decide +kernel) (pa_cons (pv 0) pa_nil)) (pe_callB cr_len (by rfl) T.len (by decide +kernel) (pa_cons (pv 1) pa_nil)) (nomark _)) (pe_one (pe_callB (cr_all rfl) (by rfl) T.all (by decide +kernel) (pa_cons (pe_lc (own := [("_law_one", 2), ("_law_two", 3)])  rfl nd (RZ.pi_zipA (by rfl) T.zip (pa_cons (pv 0) (pa_cons (pv 1) pa_nil))) (blkOk_by (N := ["_law_told", "_law_due", "_law_one", "_law_two"]) (sc := defScope s_law_same) (by decide +kernel)) (fun _ _ _ _ _ => (pg_tup (n := 2) rfl (pgs_cons (pg_name (i := 2) nd rfl (Or.inl rfl)) (pgs_cons (pg_name (i := 3) nd rfl (Or.inl rfl)) pgs_nil)) : PG _ _ (gTup K 2 _))) (fun _ _ _ _ _ => pts_nil) (fun _ _ _ _ _ => (pe_fn F_law_same (hr.mono (Nat.le_refl _)) (pa_cons (pv 2) (pa_cons (pv 3) pa_nil))))) pa_nil)))))))
        pss_nil)
      (pss_cons (ps_if (PW.pt (pw_or (pt_cmpR op_isN (pv 1) pe_non (nomark _)) (pw_or1 (pt_cmpR op_isN (pv 0) pe_non (nomark _)))))
        (pss_one (ps_ret (pe_and (pe_cmpR op_isN (pv 1) pe_non (nomark _)) (pe_one (pe_cmpR op_isN (pv 0) pe_non (nomark _))))))
        pss_nil)
      (pss_cons (ps_if (PW.pt (pw_or (pt_cmpR op_ne (pe_callB call_isi (by rfl) T.isinstance (by decide +kernel) (pa_cons (pv 0) (pa_cons (pe_bltn (v := .ty "bool") (by rfl) T.bool (by decide +kernel) rfl) pa_nil))) (pe_callB call_isi (by rfl) T.isinstance (by decide +kernel) (pa_cons (pv 1) (pa_cons (pe_bltn (v := .ty "bool") (by rfl) T.bool (by decide +kernel) rfl) pa_nil))) (nomark _)) (pw_or1 (pt_cmpR op_ne (pe_callB call_isi (by rfl) T.isinstance (by decide +kernel) (pa_cons (pv 0) (pa_cons (pe_bltn (v := .ty "int") (by rfl) T.int (by decide +kernel) rfl) pa_nil))) (pe_callB call_isi (by rfl) T.isinstance (by decide +kernel) (pa_cons (pv 1) (pa_cons (pe_bltn (v := .ty "int") (by rfl) T.int (by decide +kernel) rfl) pa_nil))) (nomark _)))))
        (pss_one (ps_ret pe_bl))
        pss_nil)
      (pss_one (ps_ret (pe_and (pe_cmpR op_eq (pe_callB call_isi (by rfl) T.isinstance (by decide +kernel) (pa_cons (pv 0) (pa_cons (pe_bltn (v := .ty "str") (by rfl) T.str (by decide +kernel) rfl) pa_nil))) (pe_callB call_isi (by rfl) T.isinstance (by decide +kernel) (pa_cons (pv 1) (pa_cons (pe_bltn (v := .ty "str") (by rfl) T.str (by decide +kernel) rfl) pa_nil))) (nomark _)) (pe_one (pe_cmpR op_eq (pv 0) (pv 1) (nomark _))))))))), ?_⟩
    show (_ : TS) _ [some _, some _, none, none] _
    try dsimp only [cxOf, Cx.nox]
    cases he with
    | non n =>
      walk_at "run"
      exact k _ (by walk_at "ext")
    | bl n b =>
      walk_at "run"
      rw [decide_eq_true rfl]
      exact k _ (by walk_at "ext")
    | int n i =>
      walk_at "run"
      rw [decide_eq_true rfl]
      exact k _ (by walk_at "ext")
    | str n z =>
      walk_at "run"
      rw [decide_eq_true rfl]
      exact k _ (by walk_at "ext")
    | @tup n a b xs ys ha hb hl h4 h =>
      walk_at "run"
      refine r_true (len_is (by rw [hl])) ?_
      walk_at "run"
      refine ⟨a, b, xs, ys, rfl, .inr ⟨by walk_at "sq", by walk_at "sq", fun D hD => ?_⟩⟩
      generalize hH : upd H _ _ = H0 at *
      have e0 : Ext [] H H0 := by
        rw [← hH]
        walk_at "ext"
      refine r_lcZT hl (fun i H1 => Ext [] H0 H1 ∧ H1 D = some (.lst ((List.replicate i true).map V.bl))) ⟨Ext.refl.new hD, upd_same⟩ (fun i H1 p => ⟨tup0 (e0.trans p.1) ha, tup0 (e0.trans p.1) hb⟩) ?_ ?_
      · rintro i x y T H1 hx hy ⟨e1, hD1⟩ hT
        walk_at "run"
        refine ⟨rfl, ?_⟩
        walk_at "run"
        have hi : i < xs.length := (List.getElem?_eq_some_iff.mp hx).1
        have e2 : Ext [] H0 (upd H1 T (.tup [x, y])) := e1.new hT
        refine ⟨x, y, rfl, (h i x y hx hy).x0 (e0.trans e2), fun H2 e3 => ?_⟩
        have hD2 : H2 D = some (.lst ((List.replicate i true).map V.bl)) := e3 _ _ (by rw [upd_ne (ne_of_none hD1 hT)]; exact hD1) fun z => nomatch z
        refine ⟨_, hD2, ?_, (e2.trans e3).own hD, ?_⟩
        · rw [List.length_map, List.length_replicate]
          exact Nat.lt_of_le_of_lt (by omega : i ≤ 4000) (by decide)
        · rw [List.replicate_succ', List.map_append]
          exact upd_same
      · rintro H1 ⟨e1, hD1⟩
        walk_at "run"
        refine r_all (bs := List.replicate xs.length true) (.inl (.inl hD1)) ?_
        rw [show (List.replicate xs.length true).all id = true by simp]
        exact k _ (e0.trans e1)
    | @lst n a b xs ys ha hb hl h4 h =>
      walk_at "run"
      refine r_true (len_is (by rw [hl])) ?_
      walk_at "run"
      refine ⟨a, b, xs, ys, rfl, .inl ⟨by walk_at "sq", by walk_at "sq", fun D hD => ?_⟩⟩
      generalize hH : upd H _ _ = H0 at *
      have e0 : Ext [] H H0 := by
        rw [← hH]
        walk_at "ext"
      refine r_lcZL hl (fun i H1 => Ext [] H0 H1 ∧ H1 D = some (.lst ((List.replicate i true).map V.bl))) ⟨Ext.refl.new hD, upd_same⟩ (fun i H1 p => ⟨lst0 (e0.trans p.1) ha, lst0 (e0.trans p.1) hb⟩) ?_ ?_
      · rintro i x y T H1 hx hy ⟨e1, hD1⟩ hT
        walk_at "run"
        refine ⟨rfl, ?_⟩
        walk_at "run"
        have hi : i < xs.length := (List.getElem?_eq_some_iff.mp hx).1
        have e2 : Ext [] H0 (upd H1 T (.tup [x, y])) := e1.new hT
        refine ⟨x, y, rfl, (h i x y hx hy).x0 (e0.trans e2), fun H2 e3 => ?_⟩
        have hD2 : H2 D = some (.lst ((List.replicate i true).map V.bl)) := e3 _ _ (by rw [upd_ne (ne_of_none hD1 hT)]; exact hD1) fun z => nomatch z
        refine ⟨_, hD2, ?_, (e2.trans e3).own hD, ?_⟩
        · rw [List.length_map, List.length_replicate]
          exact Nat.lt_of_le_of_lt (by omega : i ≤ 4000) (by decide)
        · rw [List.replicate_succ', List.map_append]
          exact upd_same
      · rintro H1 ⟨e1, hD1⟩
        walk_at "run"
        refine r_all (bs := List.replicate xs.length true) (.inl (.inl hD1)) ?_
        rw [show (List.replicate xs.length true).all id = true by simp]
        exact k _ (e0.trans e1)
end
end Yk

set_option maxHeartbeats 4000000
namespace Yk
open PySem PySem.Spec PyProof.Rows L2

/-! Drawn amounts. -/
theorem of_intN {K : PySem.W.Frag} {H : Hp} {b : Bag} {l : Addr} {ns : List Int} {Q : VK} {E : XK} (hb : BagAt K H b) (hl : SqL K H l (ns.map V.int)) (hne : b.a ≠ l) (h0 : 0 < ns.length) (h4 : ns.length ≤ 4000) (k : ∀ x H', x ∈ ns → BagAt K H' b → Ext [b.a] H H' → Q (.int x) H') : spOf K [.ref b.a, .ref l] H Q E :=
  ⟨b, l, _, rfl, hb, hl, hne, by rw [List.length_map]; exact h0, by rw [List.length_map]; exact h4, fun i x H' hx hb' e => by
    rw [List.getElem?_map] at hx
    cases e2 : ns[i]? with
    | none => rw [e2] at hx; cases hx
    | some z => rw [e2] at hx; cases hx; exact k z H' (List.mem_of_getElem? e2) hb' e⟩
def spSome (K : PySem.W.Frag) : Sp := fun vs H Q _ => ∃ (b : Bag) (M : Nat), vs = [.ref b.a, .int (M : Int)] ∧ BagAt K H b ∧ M ≤ 2 ^ 60 ∧ ∀ v q H', Am K H' v q → In 30 M q → BagAt K H' b → Ext [b.a] H H' → Q v H'
section
variable {P : Program} {w : World} {K : PySem.W.Frag} {mg : Str → Option Value} {base : Heap} {f : Addr} {fd : FuncData}
abbrev s_law_some : Stmt := top 14
theorem c_law_some : FnScope ["_law_bag_here", "_law_most", "_law_bottom"] ["_law_bag_here", "_law_most"] (defScope s_law_some) := ⟨rfl, rfl, rfl, by decide +kernel, rfl, by decide +kernel, by decide +kernel⟩
theorem f_law_some (F : FunD K "_law_some" "_law_some" (defArgs s_law_some) (defBody s_law_some) (defScope s_law_some) [] [] f fd) (hm : mg "_law_some" = some (.ref f)) (T : Bt mg) (F_law_draw : Fn P w K mg base 1 "_law_draw" (spDraw K)) (F_law_of : Fn P w K mg base 2 "_law_of" (spOf K)) (F_law_amount : Fn P w K mg base 1 "_law_amount" (spPair K)) : Fn P w K mg base 3 "_law_some" (spSome K) := by
  refine fn_def F hm c_law_some (fun vs H Q E h => ?_) (fun _ _ _ _ _ _ us hl => match us, hl with | [_, _], _ => rfl) (fun cdv A outer s H vs Q E hr h => ?_)
  · obtain ⟨b, M, rfl, _⟩ := h
    rfl
  · obtain ⟨b, M, rfl, hb, hM, k⟩ := h
    have nd := c_law_some.nd
    refine ⟨_, (pss_cons (ps_set (i := 2) nd rfl (by first | exact Or.inl rfl | exact Or.inr rfl) (pe_fn F_law_of (hr.mono (by decide)) (pa_cons (pv 0) (pa_cons (pe_lst (pa_cons pe_int (pa_cons pe_int (pa_cons pe_int (pa_cons pe_int (pa_cons pe_int (pa_cons pe_int (pa_cons pe_int (pa_cons pe_int pa_nil))))))))) pa_nil))))
      (pss_one (ps_ret (pe_fn F_law_amount (hr.mono (by decide)) (pa_cons (pe_fn F_law_draw (hr.mono (by decide)) (pa_cons (pv 0) (pa_cons (pe_op op_add (pe_op op_mulW (pv 1) (pv 2)) pe_int) pa_nil))) (pa_cons (pv 2) pa_nil)))))), ?_⟩
    show (_ : TS) _ [some _, some _, none] _
    try dsimp only [cxOf, Cx.nox]
    walk_at "go"
    rename_i p hp
    refine of_intN (ns := [1, 1, 2, 1, 3, 1, 2, 5]) (hb.new hp) lstS (hb.ne hp) (Nat.zero_lt_succ _) (show 8 ≤ 4000 by decide) fun x H1 hx b1 n1 => ?_
    obtain ⟨d, rfl, d0, d5, dd⟩ : ∃ d : Nat, x = (d : Int) ∧ 0 < d ∧ d ≤ 5 ∧ d ∣ 30 := by
      simp only [List.mem_cons, List.not_mem_nil, or_false] at hx
      rcases hx with rfl | rfl | rfl | rfl | rfl | rfl | rfl | rfl
      · exact ⟨1, rfl, by decide, by decide, by decide⟩
      · exact ⟨1, rfl, by decide, by decide, by decide⟩
      · exact ⟨2, rfl, by decide, by decide, by decide⟩
      · exact ⟨1, rfl, by decide, by decide, by decide⟩
      · exact ⟨3, rfl, by decide, by decide, by decide⟩
      · exact ⟨1, rfl, by decide, by decide, by decide⟩
      · exact ⟨2, rfl, by decide, by decide, by decide⟩
      · exact ⟨5, rfl, by decide, by decide, by decide⟩
    have e1 : Ext [b.a] H H1 := Ext.trans (Ext.refl.new hp) n1
    have h60 : M ≤ 1152921504606846976 := hM
    have mw : CMulW (M : Int) (d : Int) := cmul (m := 61) (n := 4) (Nat.lt_of_le_of_lt (by omega : (M : Int).natAbs ≤ 1152921504606846976) (by decide)) (Nat.lt_of_le_of_lt (by omega : (d : Int).natAbs ≤ 5) (by decide)) (by decide) (by decide) (by decide)
    have hmd : M * d ≤ 1152921504606846976 * 5 := Nat.mul_le_mul h60 d5
    walk_at "go"
    have e2 : (M : Int) * (d : Int) = ((M * d : Nat) : Int) := by rw [Int.natCast_mul]
    rw [e2]
    refine k_draw b1 (by omega) (Int.lt_of_le_of_lt (by omega : ((M * d : Nat) : Int) + 1 ≤ 1152921504606846976 * 5 + 1) (by decide)) fun y H2 y0 y1 b2 n2 => ?_
    walk_at "go"
    refine ⟨y.toNat, d, by rw [Int.toNat_of_nonneg y0], d0, Nat.lt_of_le_of_lt (by omega : y.toNat ≤ 1152921504606846976 * 5) (Nat.lt_of_lt_of_le (by decide) (Nat.pow_le_pow_right (by decide) (by decide : 100 ≤ 8900))), Nat.lt_of_le_of_lt d5 (Nat.lt_of_lt_of_le (by decide) (Nat.pow_le_pow_right (by decide) (by decide : 100 ≤ 8900))), fun v H3 e3 a3 => ?_⟩
    exact k v _ H3 a3 (In.frac d0 dd (by omega)) (b2.x0 e3) (e1.trans (n2.trans (e3.mono fun _ z => nomatch z)))
/-- a part: so many of so many -/
structure PartQ (q r : Rat) : Prop where
  ex : ∃ a b : Nat, a ≤ b ∧ 0 < b ∧ b ∣ 30 ∧ r = q * mkRat (a : Int) b
theorem PartQ.le {q r : Rat} (h : PartQ q r) (h0 : 0 ≤ q) : 0 ≤ r ∧ r ≤ q := by
  obtain ⟨a, b, hab, hb, _, rfl⟩ := h.ex
  have i : In b 1 (mkRat (a : Int) b) := In.frac hb (Nat.dvd_refl b) (by omega)
  have h1 := i.le
  have h2 := Rat.mul_le_mul_of_nonneg_left h1 h0
  refine ⟨Rat.mul_nonneg h0 i.nn, ?_⟩
  have e : q * ((1 : Nat) : Rat) = q := by norm_cast; grind
  rw [e] at h2
  exact h2
theorem PartQ.in_ {D M : Nat} {q r : Rat} (h : PartQ q r) (i : In D M q) : In (D * 30) M r := by
  obtain ⟨a, b, hab, hb, hd, e⟩ := h.ex
  have h1 : In 30 1 (mkRat (a : Int) b) := In.frac hb hd (by omega)
  have h2 := i.mul h1
  rw [e]
  rw [Nat.mul_one] at h2
  exact h2
def spPart (K : PySem.W.Frag) : Sp := fun vs H Q _ => ∃ (b : Bag) (v : V) (q : Rat), vs = [.ref b.a, v] ∧ BagAt K H b ∧ Am K H v q ∧ 0 ≤ q ∧ Sz 4000 q ∧ ∀ u r H', Am K H' u r → PartQ q r → BagAt K H' b → Ext [b.a] H H' → Q u H'
theorem part_pairs : ∀ p ∈ ([(1, 1), (0, 1), (1, 2), (1, 1), (2, 3), (1, 5)] : List (Nat × Nat)), p.1 ≤ p.2 ∧ 0 < p.2 ∧ p.2 ∣ 30 ∧ p.2 ≤ 5 := by decide
/-- a row of pairs of numbers -/
def Prs2 (K : PySem.W.Frag) (H : Hp) (xs : List V) (ps : List (Nat × Nat)) : Prop := Rel (fun v p => ∃ a, v = V.ref a ∧ SqT K H a [.int (p.1 : Int), .int (p.2 : Int)]) xs ps
end
end Yk

set_option maxHeartbeats 4000000
namespace Yk
open PySem PySem.Spec PyProof.Rows L2

/-! Sums of rows by the law. -/
theorem szG {X M : Nat} {q : Rat} (h : In X M q) (h0 : 0 < X) (hX : X ≤ 2 ^ 400) (hM : M ≤ 2 ^ 400) : Sz 4000 q := (h.sz h0 hX hM).mono (by decide)
theorem sum_in {X M : Nat} : ∀ {l : List Rat}, (∀ q ∈ l, In X M q) → In X (l.length * M) (sumQ l)
  | [], _ => In.zero
  | q :: l, h => by
    rw [sumQ_cons, List.length_cons, Nat.add_mul, Nat.one_mul, Nat.add_comm]
    exact (h q List.mem_cons_self).add (sum_in fun x hx => h x (List.mem_cons_of_mem _ hx))
section
variable {P : Program} {w : World} {K : PySem.W.Frag} {mg : Str → Option Value} {base : Heap} {f : Addr} {fd : FuncData}
def spLAll (K : PySem.W.Frag) : Sp := fun vs H Q _ => ∃ t xs qs X M, vs = [V.ref t] ∧ SqL K H t xs ∧ Ams K H xs qs ∧ (∀ q ∈ qs, In X M q) ∧ 0 < X ∧ X ≤ 2 ^ 400 ∧ qs.length * M ≤ 2 ^ 400 ∧ RetAm K H Q (sumQ qs)
end
end Yk

set_option maxHeartbeats 4000000
namespace Yk
open PySem PySem.Spec PyProof.Rows L2

/-! plus, told of multiples of one part. -/
section
variable {P : Program} {w : World} {K : PySem.W.Frag} {mg : Str → Option Value} {base : Heap} {f : Addr} {fd : FuncData}
def spPlusIT (K : PySem.W.Frag) : Sp := fun vs H Q _ => ∃ t xs qs X M, vs = [V.ref t] ∧ SqT K H t xs ∧ Ams K H xs qs ∧ (∀ q ∈ qs, In X M q) ∧ 0 < X ∧ X ≤ 2 ^ 400 ∧ qs.length * M ≤ 2 ^ 400 ∧ RetAm K H Q (sumQ qs)
def spPlusI (K : PySem.W.Frag) : Sp := fun vs H Q _ => ∃ qs X M, Ams K H vs qs ∧ (∀ q ∈ qs, In X M q) ∧ 0 < X ∧ X ≤ 2 ^ 400 ∧ qs.length * M ≤ 2 ^ 400 ∧ qs.length ≤ 4000 ∧ RetAm K H Q (sumQ qs)
end
end Yk

set_option maxHeartbeats 4000000
namespace Yk
open PySem PySem.Spec PyProof.Rows L2
/-! Tables with numbers as keys: what a hop remembers. -/
section
variable {κ α : Type} [DecidableEq κ]
abbrev ND (c : List (κ × α)) : Prop := (c.map (·.1)).Nodup
theorem gv_nil {k : κ} : gv ([] : List (κ × α)) k = none := rfl
theorem gv_cons (p : κ × α) (c : List (κ × α)) (k : κ) : gv (p :: c) k = if p.1 = k then some p.2 else gv c k := by
  unfold gv
  rw [List.find?_cons]
  by_cases e : p.1 = k
  · rw [decide_eq_true e, if_pos e]; rfl
  · rw [decide_eq_false e, if_neg e]
theorem gv_any (k : κ) : ∀ c : List (κ × α), (c.any fun p => decide (p.1 = k)) = (gv c k).isSome
  | [] => rfl
  | p :: c => by
    rw [List.any_cons, gv_cons]
    by_cases e : p.1 = k
    · rw [decide_eq_true e, if_pos e]; rfl
    · rw [decide_eq_false e, if_neg e, Bool.false_or, gv_any k c]
theorem gv_map (k j : κ) (y : α) : ∀ c : List (κ × α), gv (c.map fun p => if p.1 = k then (p.1, y) else p) j = (gv c j).map fun x => if j = k then y else x
  | [] => rfl
  | p :: c => by
    rw [List.map_cons, gv_cons, gv_cons, gv_map k j y c]
    by_cases h : p.1 = k
    · rw [if_pos h]
      by_cases e : p.1 = j
      · rw [if_pos e, if_pos e, Option.map_some, if_pos (e.symm.trans h)]
      · rw [if_neg e, if_neg e]
    · rw [if_neg h]
      by_cases e : p.1 = j
      · rw [if_pos e, if_pos e, Option.map_some, if_neg (fun z => h (e.trans z))]
      · rw [if_neg e, if_neg e]
theorem gv_app (j : κ) (d : List (κ × α)) : ∀ c : List (κ × α), gv (c ++ d) j = (gv c j).or (gv d j)
  | [] => rfl
  | p :: c => by
    rw [List.cons_append, gv_cons, gv_cons, gv_app j d c]
    by_cases e : p.1 = j
    · rw [if_pos e, if_pos e]; rfl
    · rw [if_neg e, if_neg e]
theorem gp_new {c : List (κ × α)} {k : κ} (y : α) (h : gv c k = none) : gp c k y = c ++ [(k, y)] := by
  unfold gp
  rw [gv_any, h, if_neg (by simp)]
theorem gv_gp (c : List (κ × α)) (k j : κ) (y : α) : gv (gp c k y) j = if j = k then some y else gv c j := by
  unfold gp
  rw [gv_any]
  cases h : gv c k with
  | none =>
    rw [if_neg (by simp), gv_app, gv_cons]
    by_cases e : j = k
    · subst e
      rw [h, if_pos rfl, if_pos rfl]; rfl
    · rw [if_neg (fun z => e z.symm), if_neg e, gv_nil]
      cases gv c j <;> rfl
  | some x =>
    rw [if_pos (by rfl), gv_map]
    by_cases e : j = k
    · subst e
      rw [h, if_pos rfl, Option.map_some, if_pos rfl]
    · rw [if_neg e]
      cases gv c j with
      | none => rfl
      | some z => rw [Option.map_some, if_neg e]
theorem gv_none {k : κ} : ∀ {c : List (κ × α)}, gv c k = none ↔ k ∉ c.map (·.1)
  | [] => by simp [gv]
  | p :: c => by
    rw [gv_cons, List.map_cons, List.mem_cons]
    by_cases e : p.1 = k
    · rw [if_pos e]; simp [e]
    · rw [if_neg e, gv_none]
      exact ⟨fun h => by rintro (z | z); exact e z.symm; exact h z, fun h z => h (.inr z)⟩
theorem gv_iff {k : κ} {y : α} : ∀ {c : List (κ × α)}, ND c → (gv c k = some y ↔ (k, y) ∈ c)
  | [], _ => by simp [gv]
  | p :: c, h => by
    have h' := List.nodup_cons.mp (show (p.1 :: c.map (·.1)).Nodup from h)
    rw [gv_cons, List.mem_cons]
    by_cases e : p.1 = k
    · rw [if_pos e]
      constructor
      · intro z
        left
        rw [← e, ← Option.some.inj z]
      · rintro (z | z)
        · rw [← z]
        · exact absurd (by rw [e]; exact List.mem_map_of_mem (f := (·.1)) z) h'.1
    · rw [if_neg e, gv_iff h'.2]
      exact ⟨fun z => .inr z, fun z => z.resolve_left fun q => e (by rw [← q])⟩
theorem nd_gp {c : List (κ × α)} (h : ND c) (k : κ) (y : α) : ND (gp c k y) := by
  unfold gp
  rw [gv_any]
  cases e : gv c k with
  | none =>
    rw [if_neg (by simp)]
    show ((c ++ [(k, y)]).map (·.1)).Nodup
    rw [List.map_append, List.nodup_append]
    refine ⟨h, by simp, ?_⟩
    intro a ha b hb
    have := gv_none.mp e
    simp at hb
    rw [hb]
    exact fun z => this (z ▸ ha)
  | some x =>
    rw [if_pos (by rfl)]
    unfold ND
    rw [List.map_map]
    have e2 : ((·.1) ∘ fun p : κ × α => if p.1 = k then (p.1, y) else p) = (·.1) := by
      funext p
      show (if p.1 = k then (p.1, y) else p).1 = p.1
      split <;> rfl
    rw [e2]
    exact h
theorem gp_len (c : List (κ × α)) (k : κ) (y : α) : (gp c k y).length ≤ c.length + 1 := by
  unfold gp
  split
  · rw [List.length_map]; omega
  · simp
theorem gp_mem {c : List (κ × α)} {k : κ} {y : α} {p : κ × α} (h : p ∈ gp c k y) : p.2 = y ∨ p ∈ c := by
  unfold gp at h
  split at h
  · obtain ⟨q, hq, e⟩ := List.mem_map.mp h
    split at e
    · left; rw [← e]
    · right; rw [← e]; exact hq
  · rcases List.mem_append.mp h with h | h
    · exact .inr h
    · left; rw [List.mem_singleton.mp h]
theorem nd_filter {c : List (κ × α)} (h : ND c) (f : κ × α → Bool) : ND (c.filter f) := by
  have h1 := List.pairwise_map.mp h
  exact List.pairwise_map.mpr (h1.filter f)
theorem nd_pairs {c : List (κ × α)} (h : ND c) : c.Nodup := (List.pairwise_map.mp h).imp fun z q => z (by rw [q])
theorem perm_of {c c' : List (κ × α)} {f : κ → Bool} (h : ND c) (h' : ND c') (e : ∀ k, f k = true → gv c k = gv c' k) : (c.filter fun p => f p.1).Perm (c'.filter fun p => f p.1) := by
  refine (List.perm_ext_iff_of_nodup (nd_pairs (nd_filter h _)) (nd_pairs (nd_filter h' _))).mpr fun p => ?_
  rw [List.mem_filter, List.mem_filter]
  constructor
  · rintro ⟨h1, h2⟩
    exact ⟨(gv_iff (k := p.1) (y := p.2) h').mp (by rw [← e p.1 h2]; exact (gv_iff h).mpr h1), h2⟩
  · rintro ⟨h1, h2⟩
    exact ⟨(gv_iff (k := p.1) (y := p.2) h).mp (by rw [e p.1 h2]; exact (gv_iff h').mpr h1), h2⟩
theorem gv_filter (f : κ → Bool) (k : κ) : ∀ c : List (κ × α), gv (c.filter fun p => f p.1) k = if f k = true then gv c k else none
  | [] => by simp [gv]
  | p :: c => by
    rw [List.filter_cons]
    by_cases e : p.1 = k
    · by_cases hf : f p.1 = true
      · rw [if_pos hf, gv_cons, if_pos e, ← e, if_pos hf, gv_cons, if_pos rfl]
      · rw [if_neg hf, gv_filter f k c, ← e, if_neg hf, if_neg hf]
    · by_cases hf : f p.1 = true
      · rw [if_pos hf, gv_cons, if_neg e, gv_filter f k c, gv_cons, if_neg e]
      · rw [if_neg hf, gv_filter f k c, gv_cons, if_neg e]
end
def win (c : List (Int × Rat)) (lo hi : Int) : List Rat := (c.filter fun p => decide (lo < p.1) && decide (p.1 < hi)).map (·.2)
theorem win_perm {c c' : List (Int × Rat)} {lo hi : Int} (h : ND c) (h' : ND c') (e : ∀ k, lo < k → gv c k = gv c' k) : (win c lo hi).Perm (win c' lo hi) :=
  (perm_of (f := fun k => decide (lo < k) && decide (k < hi)) h h' fun k hk => e k (by simp at hk; exact hk.1)).map _
/-- a dict with numbers as keys against a table -/
inductive IT {α : Type} (R : V → α → Prop) : List (Key × V) → List (Int × α) → Prop
  | nil : IT R [] []
  | cons {k : Int} {v : V} {y : α} {l : List (Key × V)} {c : List (Int × α)} : R v y → IT R l c → IT R ((.inl k, v) :: l) ((k, y) :: c)
section
variable {α : Type} {R R' : V → α → Prop} {l : List (Key × V)} {c : List (Int × α)} {k : Int} {v : V} {y : α}
theorem IT.imp (f : ∀ v y, R v y → R' v y) (h : IT R l c) : IT R' l c := by
  induction h with
  | nil => exact .nil
  | cons a _ ih => exact .cons (f _ _ a) ih
theorem IT.len (h : IT R l c) : l.length = c.length := by
  induction h with
  | nil => rfl
  | cons a _ ih => simp [ih]
theorem IT.get (h : IT R l c) : ∀ {i : Nat} {k : Key} {x : V}, l[i]? = some (k, x) → ∃ n y, k = .inl n ∧ c[i]? = some (n, y) ∧ R x y := by
  induction h with
  | nil => intro i k x z; simp at z
  | @cons k' v' y' l c a _ ih =>
    intro i k x z
    cases i with
    | zero => cases z; exact ⟨k', y', rfl, rfl, a⟩
    | succ i => exact ih (i := i) (by simpa using z)
theorem IT.val (h : IT R l c) (k : Int) : (valV l (.inl k) = none ∧ gv c k = none) ∨ ∃ v y, valV l (.inl k) = some v ∧ gv c k = some y ∧ R v y := by
  induction h with
  | nil => exact .inl ⟨rfl, rfl⟩
  | @cons k' v y l c a _ ih =>
    rw [gv_cons]
    by_cases e : k' = k
    · subst e
      exact .inr ⟨v, y, valV_pos rfl, by rw [if_pos rfl], a⟩
    · rw [valV_neg (p := ((.inl k' : Key), v)) (fun z => e (Sum.inl.inj z)), if_neg e]
      exact ih
theorem IT.any (h : IT R l c) (k : Int) : (l.any fun p => decide (p.1 = .inl k)) = (c.any fun p => decide (p.1 = k)) := by
  rw [valV_any, gv_any]
  rcases h.val k with ⟨a, b⟩ | ⟨v, y, a, b, _⟩ <;> rw [a, b] <;> rfl
theorem IT.repl (h : IT R l c) (a : R v y) : IT R (l.map fun kv => if kv.1 = .inl k then (kv.1, v) else kv) (c.map fun p => if p.1 = k then (p.1, y) else p) := by
  induction h with
  | nil => exact .nil
  | @cons k' v' y' l c b _ ih =>
    rw [List.map_cons, List.map_cons]
    by_cases e : k' = k
    · subst e
      rw [if_pos rfl, if_pos rfl]; exact .cons a ih
    · rw [if_neg (fun z => e (Sum.inl.inj z)), if_neg e]; exact .cons b ih
theorem IT.app {l2 : List (Key × V)} {c2 : List (Int × α)} (h : IT R l c) (g : IT R l2 c2) : IT R (l ++ l2) (c ++ c2) := by
  induction h with
  | nil => exact g
  | cons b _ ih => exact .cons b ih
theorem IT.put (h : IT R l c) (a : R v y) : IT R (putK l (.inl k) v) (gp c k y) := by
  unfold putK gp
  rw [h.any k]
  split
  · exact h.repl a
  · exact h.app (.cons a .nil)
end
end Yk

set_option maxHeartbeats 4000000
namespace Yk
open PySem PySem.Spec PyProof.Rows L2

/-! _law_same where an error is handled. -/
local macro_rules | `(tactic| walk_at "st") => `(tactic| first | with_reducible refine' r_iZip2 ?_)
section
variable {P : Program} {w : World} {K : PySem.W.Frag} {mg : Str → Option Value} {base : Heap} {f : Addr} {fd : FuncData}
theorem h_law_same (F : FunD K "_law_same" "_law_same" (defArgs s_law_same) (defBody s_law_same) (defScope s_law_same) [] [] f fd) (hm : mg "_law_same" = some (.ref f)) (T : Bt mg) (n : Nat) (G_law_same : FnT P w K mg base n "_law_same" (spLike K n)) : FnT P w K mg base (n+1) "_law_same" (spLike K (n + 1)) := by
  refine fnT_def F hm c_law_same (fun vs H Q E h => ?_) (fun _ _ _ _ _ _ us hl => match us, hl with | [_, _], _ => rfl) (fun cdv A outer s H vs Q E p hot hr h => ?_)
  · obtain ⟨v1, v2, rfl, _⟩ := h
    rfl
  · obtain ⟨v1, v2, rfl, he, k⟩ := h
    have nd := c_law_same.nd
    refine ⟨_, (pss_cons (ps_if (pt_val (pe_callB call_isiT (by rfl) T.isinstance (by decide +kernel) (pa_cons (pv 1) (pa_cons (pe_tup (pa_cons (pe_bltn (v := .ty "tuple") (by rfl) T.tuple (by decide +kernel) rfl) (pa_cons (pe_bltn (v := .ty "list") (by rfl) T.list (by decide +kernel) rfl) pa_nil))) pa_nil))))
        (pss_cons (ps_if (PW.pt (pw_or (pt_cmpR op_ne (pe_callB call_isi (by rfl) T.isinstance (by decide +kernel) (pa_cons (pv 0) (pa_cons (pe_bltn (v := .ty "tuple") (by rfl) T.tuple (by decide +kernel) rfl) pa_nil))) (pe_callB call_isi (by rfl) T.isinstance (by decide +kernel) (pa_cons (pv 1) (pa_cons (pe_bltn (v := .ty "tuple") (by rfl) T.tuple (by decide +kernel) rfl) pa_nil))) (nomark _)) (pw_or1 (pt_cmpR op_ne (pe_callB call_isi (by rfl) T.isinstance (by decide +kernel) (pa_cons (pv 0) (pa_cons (pe_bltn (v := .ty "list") (by rfl) T.list (by decide +kernel) rfl) pa_nil))) (pe_callB call_isi (by rfl) T.isinstance (by decide +kernel) (pa_cons (pv 1) (pa_cons (pe_bltn (v := .ty "list") (by rfl) T.list (by decide +kernel) rfl) pa_nil))) (nomark _)))))
          (pss_one (ps_ret pe_bl))
          pss_nil)
        (pss_one (ps_ret (pe_and (pe_cmpR op_eq (pe_callB cr_len (by rfl) T.len (by decide +kernel) (pa_cons (pv 0) pa_nil)) (pe_callB cr_len (by rfl) T.len (by decide +kernel) (pa_cons (pv 1) pa_nil)) (nomark _)) (pe_one (pe_callB (cr_allH ⟨p, hot, List.mem_singleton.mpr rfl⟩) (by rfl) T.all (by decide +kernel) (pa_cons (pe_lcH (own := [("_law_one", 2), ("_law_two", 3)])  ⟨p, hot, List.mem_singleton.mpr rfl⟩ nd (pi_zip2H (by rfl) T.zip (pa_cons (pv 0) (pa_cons (pv 1) pa_nil))) (blkOk_by (N := ["_law_told", "_law_due", "_law_one", "_law_two"]) (sc := defScope s_law_same) (by decide +kernel)) (fun _ _ _ _ _ => (pg_tupH (n := 2) ⟨p, hot, List.mem_singleton.mpr rfl⟩ (pgs_cons (pg_name (i := 2) nd rfl (Or.inl rfl)) (pgs_cons (pg_name (i := 3) nd rfl (Or.inl rfl)) pgs_nil)) : PG _ _ (gTup K 2 _))) (fun _ _ _ _ _ => pts_nil) (fun _ _ _ _ _ => (pe_fnT G_law_same (hr.mono (Nat.le_refl _)) ⟨p, hot, List.mem_singleton.mpr rfl⟩ (pa_cons (pv 2) (pa_cons (pv 3) pa_nil))))) pa_nil)))))))
        pss_nil)
      (pss_cons (ps_if (PW.pt (pw_or (pt_cmpR op_isN (pv 1) pe_non (nomark _)) (pw_or1 (pt_cmpR op_isN (pv 0) pe_non (nomark _)))))
        (pss_one (ps_ret (pe_and (pe_cmpR op_isN (pv 1) pe_non (nomark _)) (pe_one (pe_cmpR op_isN (pv 0) pe_non (nomark _))))))
        pss_nil)
      (pss_cons (ps_if (PW.pt (pw_or (pt_cmpR op_ne (pe_callB call_isi (by rfl) T.isinstance (by decide +kernel) (pa_cons (pv 0) (pa_cons (pe_bltn (v := .ty "bool") (by rfl) T.bool (by decide +kernel) rfl) pa_nil))) (pe_callB call_isi (by rfl) T.isinstance (by decide +kernel) (pa_cons (pv 1) (pa_cons (pe_bltn (v := .ty "bool") (by rfl) T.bool (by decide +kernel) rfl) pa_nil))) (nomark _)) (pw_or1 (pt_cmpR op_ne (pe_callB call_isi (by rfl) T.isinstance (by decide +kernel) (pa_cons (pv 0) (pa_cons (pe_bltn (v := .ty "int") (by rfl) T.int (by decide +kernel) rfl) pa_nil))) (pe_callB call_isi (by rfl) T.isinstance (by decide +kernel) (pa_cons (pv 1) (pa_cons (pe_bltn (v := .ty "int") (by rfl) T.int (by decide +kernel) rfl) pa_nil))) (nomark _)))))
        (pss_one (ps_ret pe_bl))
        pss_nil)
      (pss_one (ps_ret (pe_and (pe_cmpR op_eq (pe_callB call_isi (by rfl) T.isinstance (by decide +kernel) (pa_cons (pv 0) (pa_cons (pe_bltn (v := .ty "str") (by rfl) T.str (by decide +kernel) rfl) pa_nil))) (pe_callB call_isi (by rfl) T.isinstance (by decide +kernel) (pa_cons (pv 1) (pa_cons (pe_bltn (v := .ty "str") (by rfl) T.str (by decide +kernel) rfl) pa_nil))) (nomark _)) (pe_one (pe_cmpR op_eq (pv 0) (pv 1) (nomark _))))))))), ?_⟩
    show (_ : TS) _ [some _, some _, none, none] _
    try dsimp only [cxOf, Cx.nox]
    cases he with
    | non n =>
      walk_at "run"
      exact k _ (by walk_at "ext")
    | bl n b =>
      walk_at "run"
      rw [decide_eq_true rfl]
      exact k _ (by walk_at "ext")
    | int n i =>
      walk_at "run"
      rw [decide_eq_true rfl]
      exact k _ (by walk_at "ext")
    | str n z =>
      walk_at "run"
      rw [decide_eq_true rfl]
      exact k _ (by walk_at "ext")
    | @tup n a b xs ys ha hb hl h4 h =>
      walk_at "run"
      refine r_true (len_is (by rw [hl])) ?_
      walk_at "run"
      refine ⟨false, false, a, b, xs, ys, rfl, (show SqT K _ a xs by walk_at "sq"), (show SqT K _ b ys by walk_at "sq"), fun D hD => ?_⟩
      generalize hH : upd H _ _ = H0 at *
      have e0 : Ext [] H H0 := by
        rw [← hH]
        walk_at "ext"
      refine r_lcZ2 hl (fun i H1 => Ext [] H0 H1 ∧ H1 D = some (.lst ((List.replicate i true).map V.bl))) ⟨Ext.refl.new hD, upd_same⟩ (fun i H1 p => ⟨tup0 (e0.trans p.1) ha, tup0 (e0.trans p.1) hb⟩) ?_ ?_
      · rintro i x y T H1 hx hy ⟨e1, hD1⟩ hT
        walk_at "run"
        refine ⟨rfl, ?_⟩
        walk_at "run"
        have hi : i < xs.length := (List.getElem?_eq_some_iff.mp hx).1
        have e2 : Ext [] H0 (upd H1 T (.tup [x, y])) := e1.new hT
        refine ⟨x, y, rfl, (h i x y hx hy).x0 (e0.trans e2), fun H2 e3 => ?_⟩
        have hD2 : H2 D = some (.lst ((List.replicate i true).map V.bl)) := e3 _ _ (by rw [upd_ne (ne_of_none hD1 hT)]; exact hD1) fun z => nomatch z
        refine ⟨_, hD2, ?_, (e2.trans e3).own hD, ?_⟩
        · rw [List.length_map, List.length_replicate]
          exact Nat.lt_of_le_of_lt (by omega : i ≤ 4000) (by decide)
        · rw [List.replicate_succ', List.map_append]
          exact upd_same
      · rintro H1 ⟨e1, hD1⟩
        walk_at "run"
        refine r_all (bs := List.replicate xs.length true) (.inl (.inl hD1)) ?_
        rw [show (List.replicate xs.length true).all id = true by simp]
        exact k _ (e0.trans e1)
    | @lst n a b xs ys ha hb hl h4 h =>
      walk_at "run"
      refine r_true (len_is (by rw [hl])) ?_
      walk_at "run"
      refine ⟨true, true, a, b, xs, ys, rfl, (show SqL K _ a xs by walk_at "sq"), (show SqL K _ b ys by walk_at "sq"), fun D hD => ?_⟩
      generalize hH : upd H _ _ = H0 at *
      have e0 : Ext [] H H0 := by
        rw [← hH]
        walk_at "ext"
      refine r_lcZ2 hl (fun i H1 => Ext [] H0 H1 ∧ H1 D = some (.lst ((List.replicate i true).map V.bl))) ⟨Ext.refl.new hD, upd_same⟩ (fun i H1 p => ⟨lst0 (e0.trans p.1) ha, lst0 (e0.trans p.1) hb⟩) ?_ ?_
      · rintro i x y T H1 hx hy ⟨e1, hD1⟩ hT
        walk_at "run"
        refine ⟨rfl, ?_⟩
        walk_at "run"
        have hi : i < xs.length := (List.getElem?_eq_some_iff.mp hx).1
        have e2 : Ext [] H0 (upd H1 T (.tup [x, y])) := e1.new hT
        refine ⟨x, y, rfl, (h i x y hx hy).x0 (e0.trans e2), fun H2 e3 => ?_⟩
        have hD2 : H2 D = some (.lst ((List.replicate i true).map V.bl)) := e3 _ _ (by rw [upd_ne (ne_of_none hD1 hT)]; exact hD1) fun z => nomatch z
        refine ⟨_, hD2, ?_, (e2.trans e3).own hD, ?_⟩
        · rw [List.length_map, List.length_replicate]
          exact Nat.lt_of_le_of_lt (by omega : i ≤ 4000) (by decide)
        · rw [List.replicate_succ', List.map_append]
          exact upd_same
      · rintro H1 ⟨e1, hD1⟩
        walk_at "run"
        refine r_all (bs := List.replicate xs.length true) (.inl (.inl hD1)) ?_
        rw [show (List.replicate xs.length true).all id = true by simp]
        exact k _ (e0.trans e1)
end
end Yk

set_option maxHeartbeats 8000000
namespace Yk
open PySem PySem.Spec PyProof.Rows L2

/-! Any values: which are numbers, amounts, manners. -/
def numD : PyData → Bool
  | .int _ => true
  | _ => false
def amD : PyData → Bool
  | .tuple [.int t, .int b] => decide (0 ≤ t) && (decide (1 ≤ b) && decide (Nat.gcd t.natAbs b.natAbs = 1))
  | _ => false
def leD : PyData → PyData → Bool
  | .tuple [.int a, .int b], .tuple [.int c, .int d] => decide (a * d ≤ c * b)
  | _, _ => false
def pairD : PyData → Bool
  | .tuple [x, y] => amD x && (amD y && leD x y)
  | _ => false
def manD : PyData → Bool
  | .tuple [] => true
  | d => pairD d
def smAmB : PyData → Bool
  | .tuple [.int t, .int b] => decide (t.natAbs < 2 ^ 200) && decide (b.natAbs < 2 ^ 200)
  | _ => true
def smB : PyData → Bool
  | .tuple [x, y] => smAmB x && smAmB y && smAmB (.tuple [x, y])
  | _ => true
theorem numD_int {d : PyData} (h : numD d = true) : ∃ i, d = .int i := by
  cases d with
  | int i => exact ⟨i, rfl⟩
  | _ => exact absurd h (by simp [numD])
theorem amD_1 {x y : PyData} (h : numD x = false) : amD (.tuple [x, y]) = false := by
  cases x with
  | int i => exact absurd h (by simp [numD])
  | _ => rfl
theorem amD_2 {x y : PyData} (h : numD y = false) : amD (.tuple [x, y]) = false := by
  cases x with
  | int i =>
    cases y with
    | int i => exact absurd h (by simp [numD])
    | _ => rfl
  | _ => rfl
theorem amD_s (x : PyData) : amD (.tuple [x]) = false := by cases x <;> rfl
theorem amD_l (x y z : PyData) (t : List PyData) : amD (.tuple (x :: y :: z :: t)) = false := by cases x <;> cases y <;> rfl
theorem amD_rat {d : PyData} (h : amD d = true) : ∃ p : Rat, 0 ≤ p ∧ d = .tuple [.int p.num, .int (p.den : Int)] := by
  unfold amD at h
  split at h
  · rename_i t b
    simp only [Bool.and_eq_true, decide_eq_true_eq] at h
    obtain ⟨h1, h2, h3⟩ := h
    have e : ((b.toNat : Nat) : Int) = b := by omega
    have hc : t.natAbs.Coprime b.toNat := by
      have : b.toNat = b.natAbs := by omega
      rw [this]
      exact h3
    exact ⟨⟨t, b.toNat, by omega, hc⟩, Rat.num_nonneg.mp h1, by show PyData.tuple [.int t, .int b] = .tuple [.int t, .int ((b.toNat : Nat) : Int)]; rw [e]⟩
  · cases h
theorem smAm_sz {p : Rat} (h : smAmB (.tuple [.int p.num, .int (p.den : Int)]) = true) : Sz 200 p := by
  simp only [smAmB, Bool.and_eq_true, decide_eq_true_eq] at h
  exact ⟨h.1, by simpa using h.2⟩
theorem leD_rat {p q : Rat} : leD (.tuple [.int p.num, .int (p.den : Int)]) (.tuple [.int q.num, .int (q.den : Int)]) = decide (p ≤ q) := by
  show decide (p.num * (q.den : Int) ≤ q.num * (p.den : Int)) = decide (p ≤ q)
  rw [Bool.eq_iff_iff, decide_eq_true_iff, decide_eq_true_iff, Rat.le_iff]
theorem manD_eq (d : PyData) : manD d = (pairD d || (match d with | .tuple [] => true | _ => false)) := by
  unfold manD
  split
  · rfl
  · rename_i h
    cases d with
    | tuple ds => cases ds with
      | nil => exact absurd rfl h
      | cons x r => show _ = (pairD _ || false); rw [Bool.or_false]
    | _ => show _ = (pairD _ || false); rw [Bool.or_false]
section
variable {K : PySem.W.Frag} {H H1 : Hp}
mutual
theorem dpx0 (e : Ext [] H H1) : ∀ {v : V} {d : PyData}, Dp K H v d → Dp K H1 v d
  | _, _, .non => .non
  | _, _, .bl b => .bl b
  | _, _, .int i => .int i
  | _, _, .str z => .str z
  | _, _, .lst h g => .lst (lst0 e h) (dpAllx0 e g)
  | _, _, .tup h g => .tup (tup0 e h) (dpAllx0 e g)
theorem dpAllx0 (e : Ext [] H H1) : ∀ {vs : List V} {ds : List PyData}, DpAll K H vs ds → DpAll K H1 vs ds
  | _, _, .nil => .nil
  | _, _, .cons h g => .cons (dpx0 e h) (dpAllx0 e g)
end
end
section
variable {K : PySem.W.Frag} {H : Hp} {Q : VK}
theorem dp_rat {v : V} {p : Rat} (h : Dp K H v (.tuple [.int p.num, .int (p.den : Int)])) : Am K H v p := by
  cases h with
  | tup h g =>
    cases g with
    | cons a g =>
      cases a
      cases g with
      | cons b g =>
        cases b
        cases g
        exact ⟨_, rfl, h⟩
theorem len_ne {n : Nat} {k : Int} (h : (n : Int) ≠ k) : (!decide (V.int (n : Int) = V.int k)) = true := by rw [len_not h]; rfl
theorem r_lcT {a : Addr} {xs : List V} {g : TG} {tt : TT} {te : TE} {vs : List Nat} {σ : L2.St} {D : Addr} {Qd : Hp → Prop} (Pv : Nat → Hp → Prop) (h0 : Pv 0 (upd H D (.lst []))) (hl : ∀ i H, i ≤ xs.length → Pv i H → SqT K H a xs)
    (hs : ∀ i x H, xs[i]? = some x → Pv i H → g x (wipe σ vs) H fun σ2 H2 => wipe σ2 vs = wipe σ vs ∧ tt σ2 H2 fun b H3 =>
      if b = true then te σ2 H3 fun y H4 => ∃ acc, H4 D = some (.lst acc) ∧ acc.length < sizeLine ∧ Pv (i + 1) (upd H4 D (.lst (acc ++ [y]))) else Pv (i + 1) H3) (hd : ∀ H, Pv xs.length H → Qd H) :
    ∃ W : Nat → Nat → Hp → Prop, (∃ m, W 0 m (upd H D (.lst []))) ∧ ∀ i m H, W i m H →
      ((Itt K a).stop i H ∧ Qd H) ∨ ((Itt K a).go i H ∧ ∃ Nx : Hp → Prop, (∀ H', Nx H' → ∃ m', m' < m ∧ W (i + 1) m' H') ∧ ∀ x H', (Itt K a).yld i H x H' → g x (wipe σ vs) H' fun σ2 H2 => wipe σ2 vs = wipe σ vs ∧ tt σ2 H2 fun b H3 =>
        if b = true then te σ2 H3 fun y H4 => ∃ acc, H4 D = some (.lst acc) ∧ acc.length < sizeLine ∧ Nx (upd H4 D (.lst (acc ++ [y]))) else Nx H3) :=
  lc_tup (Qd := Qd) Pv h0 hl hs hd
end
section
variable {P : Program} {w : World} {K : PySem.W.Frag} {mg : Str → Option Value} {base : Heap} {f : Addr} {fd : FuncData}
def spIsNumD (K : PySem.W.Frag) : Sp := fun vs H Q _ => ∃ (v : V) (d : PyData), vs = [v] ∧ Dp K H v d ∧ Q (.bl (numD d)) H
abbrev s_is_number : Stmt := top 1
theorem c_is_number : FnScope ["value"] ["value"] (defScope s_is_number) := ⟨rfl, rfl, rfl, by decide +kernel, rfl, by decide +kernel, by decide +kernel⟩
theorem f_is_number (F : FunD K "is_number" "is_number" (defArgs s_is_number) (defBody s_is_number) (defScope s_is_number) [] [] f fd) (hm : mg "is_number" = some (.ref f)) (T : Bt mg) : Fn P w K mg base 1 "is_number" (spIsNumD K) := by
  refine fn_def F hm c_is_number (fun vs H Q E h => ?_) (fun _ _ _ _ _ _ us hl => match us, hl with | [_], _ => rfl) (fun cdv A outer s H vs Q E hr h => ?_)
  · obtain ⟨v, d, rfl, _⟩ := h
    rfl
  · obtain ⟨v, d, rfl, hd, k⟩ := h
    have nd := c_is_number.nd
    refine ⟨_, (pss_one (ps_ret (pe_and (pe_callB call_isi (by rfl) T.isinstance (by decide +kernel) (pa_cons (pv 0) (pa_cons (pe_bltn (v := .ty "int") (by rfl) T.int (by decide +kernel) rfl) pa_nil))) (pe_one (pe_not (pe_callB call_isi (by rfl) T.isinstance (by decide +kernel) (pa_cons (pv 0) (pa_cons (pe_bltn (v := .ty "bool") (by rfl) T.bool (by decide +kernel) rfl) pa_nil)))))))), ?_⟩
    show (_ : TS) _ [some _] _
    try dsimp only [cxOf, Cx.nox]
    cases hd with
    | non => walk_at "run"; exact k
    | bl b => walk_at "run"; exact k
    | int i => walk_at "run"; exact k
    | str x => walk_at "run"; exact k
    | lst h g => walk_at "run"; exact k
    | tup h g => walk_at "run"; exact k
def spIsAmD (K : PySem.W.Frag) : Sp := fun vs H Q _ => ∃ (v : V) (d : PyData), vs = [v] ∧ Dp K H v d ∧ Q (.bl (amD d)) H
def spIsMan (K : PySem.W.Frag) : Sp := fun vs H Q _ => ∃ (v : V) (d : PyData), vs = [v] ∧ Dp K H v d ∧ smB d = true ∧ Q (.bl (manD d)) H
theorem pairD_1 {x y : PyData} (h : amD x = false) : pairD (.tuple [x, y]) = false := by show (amD x && (amD y && leD x y)) = false; rw [h]; rfl
theorem pairD_2 {x y : PyData} (h : amD y = false) : pairD (.tuple [x, y]) = false := by show (amD x && (amD y && leD x y)) = false; rw [h]; cases amD x <;> rfl
theorem pairD_3 {x y : PyData} (h : amD x = true) (g : amD y = true) : pairD (.tuple [x, y]) = leD x y := by show (amD x && (amD y && leD x y)) = leD x y; rw [h, g]; rfl
def spLIsAm (K : PySem.W.Frag) : Sp := fun vs H Q _ => ∃ (v : V) (d : PyData), vs = [v] ∧ Dp K H v d ∧ smAmB d = true ∧ ∀ H', Ext [] H H' → Q (.bl (amD d)) H'
theorem gcd_low {a b : Nat} (hb : 0 < b) : (a / Nat.gcd a b = a ∧ b / Nat.gcd a b = b) ↔ Nat.gcd a b = 1 := by
  constructor
  · rintro ⟨_, h⟩
    have hg : 0 < Nat.gcd a b := Nat.gcd_pos_of_pos_right a hb
    refine Nat.le_antisymm (Nat.not_lt.mp fun z => ?_) hg
    have := Nat.div_lt_self hb z
    omega
  · intro h
    rw [h, Nat.div_one, Nat.div_one]
    exact ⟨rfl, rfl⟩
def spLIsPair (K : PySem.W.Frag) : Sp := fun vs H Q _ => ∃ (v : V) (d : PyData), vs = [v] ∧ Dp K H v d ∧ smB d = true ∧ ∀ H', Ext [] H H' → Q (.bl (pairD d)) H'
end
end Yk

set_option maxHeartbeats 2000000
/-! A lambda with one parameter, handed on beside a further value; what it lets out has no context. -/
namespace Yk
open PySem PySem.Spec PyProof.Rows L2 LamX
structure LamP (x : Str) (sc scope : Scope) : Prop where
  kind : scope.kind = .function
  co : scope.isCoroutine = false
  gen : scope.isGenerator = false
  par : scope.names.lookup x = some .local
  own : ∀ y ∈ scope.names, y.2 = .local → y.1 = x
  cell : ∀ y ∈ scope.names, y.2 ≠ .cell
  free : ∀ y ∈ scope.names, y.2 = .free → sc.names.lookup y.1 = some .cell ∨ sc.names.lookup y.1 = some .free
def lamPB (x : Str) (sc scope : Scope) : Bool :=
  decide (scope.kind = .function) && !scope.isCoroutine && !scope.isGenerator && decide (scope.names.lookup x = some .local) && scope.names.all fun y => (!decide (y.2 = .local) || decide (y.1 = x)) && !decide (y.2 = .cell) && (!decide (y.2 = .free) || decide (sc.names.lookup y.1 = some .cell) || decide (sc.names.lookup y.1 = some .free))
theorem lamP_by {x : Str} {sc scope : Scope} (h : lamPB x sc scope = true) : LamP x sc scope := by
  unfold lamPB at h
  simp only [Bool.and_eq_true, Bool.or_eq_true, Bool.not_eq_true', decide_eq_true_eq, decide_eq_false_iff_not, List.all_eq_true] at h
  obtain ⟨⟨⟨⟨h1, h2⟩, h3⟩, h5⟩, h4⟩ := h
  refine ⟨h1, h2, h3, h5, fun y hy e => (h4 y hy).1.1.resolve_left fun z => z e, fun y hy => (h4 y hy).1.2, fun y hy e => ?_⟩
  rcases (h4 y hy).2 with (z | z) | z
  · exact absurd e z
  · exact .inl z
  · exact .inr z
theorem LamP.has {x : Str} {X : Cx} {scope : Scope} (L : LamP x X.env.scope scope) (ok : X.Ok) : ∀ y ∈ scope.names, y.2 = .free → ∃ c, X.env.cells.lookup y.1 = some c := fun y hy e => by
  rcases L.free y hy e with k | k
  · exact ok.has _ (.inl k)
  · exact ok.has _ (.inr k)
/-- the context of the lambda's body: the maker's names, then the parameter -/
def lamCxP (x : Str) (X : Cx) (A : Around) (outer : List Env) (s : Shared) (H : Hp) (E : XK) (scope : Scope) (f c' : Addr) : Cx where
  prog := X.prog
  w := X.w
  K := X.K
  mg := X.mg
  base := X.base
  A := A.deeper (lamEnv X scope s.heap.objs.size f c')
  N := X.N ++ [x]
  s_0 := s
  H_0 := H
  env := lamEnv X scope s.heap.objs.size f c'
  outer := outer
  stack := lamEnv X scope s.heap.objs.size f c' :: outer
  ex := []
  fn := fun _ => false
  calm := true
  pn := []
  xe := fun e s' => wpAny (model X.prog X.w) (A.deeper (lamEnv X scope s.heap.objs.size f c')) (leaving (lamEnv X scope s.heap.objs.size f c') e) (fun _ s'' => L2N.CX X.prog X.w outer H s E e s'') (fun e' s'' => L2N.CX X.prog X.w outer H s E e' s'') s'
section
variable {x : Str} {X : Cx} {pins : List (Addr × Obj)} {σ : L2.St} {H HZ : Hp} {s s1 : Shared}
theorem lam_startP {A : Around} {outer : List Env} {E : XK} {scope : Scope} {f c' : Addr} {h₁ : Heap} {tk : Nat} {v : V} {u : Value} (I : Inv X pins σ H s) (L : LamP x X.env.scope scope) (nx : x ∉ X.N) (ru : RelV v u) (e0 : Env0 X.prog X.w X.K X.mg X.base A outer s1 HZ) (hd : A.handled = none)
    (un : Un (frs X.stack) [] H HZ s.heap s1.heap) (hns : h₁.Ns s1.heap.objs.size fun y => [(x, u)].reverse.lookup y) (kp : ∀ b o, s1.heap.get? b = some o → h₁.get? b = some o) :
    Inv (lamCxP x X A outer s1 HZ E scope f c') [] (σ ++ [some v]) HZ { s1 with heap := h₁, toks := tk } := by
  have hfree := L.has I.ok
  have cm : ∀ {y c}, (cloFrom X.env.cells scope.names []).lookup y = some c → X.env.cells.lookup y = some c := fun {y c} e => by
    rcases cloFrom_mem (PySem.mem_of_lookup e) with hm | ⟨h1, h2⟩
    · cases hm
    · obtain ⟨c1, hc⟩ := hfree _ h1 rfl
      have hc : X.env.cells.lookup y = some c1 := hc
      have e2 : c = c1 := by
        rw [h2, hc] <;> rfl
      rw [e2]
      exact hc
  have look : ∀ {y}, scope.names.lookup y = some .free → ∃ c, (cloFrom X.env.cells scope.names []).lookup y = some c := fun {y} hl => by
    have hy : (y, NameKind.free) ∈ scope.names := PySem.mem_of_lookup hl
    exact mem_lookup (cloFrom_has (cells := X.env.cells) (acc := []) hy)
  have cellK : ∀ {c : Addr} {v : Option Value}, H c = none → s.heap.IsCell c v → h₁.IsCell c v := fun {c v} n ⟨o, ho, hd⟩ => by
    obtain ⟨sl, q⟩ := un.any ho n (by simp)
    exact ⟨_, kp _ _ q, hd⟩
  have noA : ∀ b : Addr, b ∉ (lamCxP x X A outer s1 HZ E scope f c').ex := fun b z => absurd (show b ∈ ([] : List Addr) from z) (by simp)
  refine ⟨⟨e0.mod, L.kind, rfl, rfl, Nat.le_refl _, fun y z c e1 e2 => I.ok.inj y z c (cm e1) (cm e2), fun y hy => ?_, fun y c z _ => ?_, fun _ => hd, Around.frames_deeper e0.frames, .inr ⟨rfl, rfl⟩, fun b z => absurd z (noA b), e0.bs, e0.bsz, fun b _ _ => noA b,
      fun b z => absurd z (noA b), e0.funs, e0.frf⟩,
    rfl, e0.bare, Un.kept kp, ⟨_, hns, fun i y v' e1 e2 e3 => ?_⟩, fun y c e => ?_, e0.hok.fresh (Nat.le_refl _), fun y c e => ?_, fun q hq => absurd (show q ∈ ([] : List (Addr × Obj)) ++ [] from hq) (by simp), e0.hok.kept kp, ?_⟩
  · have hy : scope.names.lookup y = some .cell ∨ scope.names.lookup y = some .free := hy
    rcases hy with hy | hy
    · exact absurd rfl (L.cell _ (PySem.mem_of_lookup hy))
    · exact look hy
  · have z : false = true := z
    cases z
  · have e3 : Vis scope y := e3
    have e1 : (X.N ++ [x])[i]? = some y := e1
    have lenN := I.len
    rcases e3 with k | k | k
    · -- the parameter
      have ey : y = x := L.own _ (PySem.mem_of_lookup k) rfl
      subst ey
      have hi : i = X.N.length := by
        rcases Nat.lt_or_ge i X.N.length with hlt | hge
        · rw [List.getElem?_append_left hlt] at e1
          exact absurd (List.mem_of_getElem? e1) nx
        · rw [List.getElem?_append_right hge] at e1
          have := (List.getElem?_eq_some_iff.mp e1).1
          simp at this
          omega
      subst hi
      rw [List.getElem?_append_right (by omega), lenN, Nat.sub_self] at e2
      have e2 : some v = some v' := Option.some.inj e2
      cases e2
      exact ⟨u, ru, .inl ⟨k, by simp [List.lookup]⟩⟩
    · exact absurd rfl (L.cell _ (PySem.mem_of_lookup k))
    · have hlt : i < X.N.length := by
        rcases Nat.lt_or_ge i X.N.length with hlt | hge
        · exact hlt
        · rw [List.getElem?_append_right hge] at e1
          have h0 := (List.getElem?_eq_some_iff.mp e1).1
          simp at h0
          have : i - X.N.length = 0 := by omega
          rw [this] at e1
          have e1 : x = y := Option.some.inj e1
          rw [← e1, L.par] at k
          cases k
      rw [List.getElem?_append_left hlt] at e1
      rw [List.getElem?_append_left (by omega)] at e2
      obtain ⟨m, hn, hl⟩ := I.loc
      have hvis : Vis X.env.scope y := (L.free _ (PySem.mem_of_lookup k) rfl).elim (fun k => .inr (.inl k)) (fun k => .inr (.inr k))
      obtain ⟨w', r, q⟩ := hl i y v' e1 e2 hvis
      obtain ⟨c2, h2⟩ := look k
      refine ⟨w', r, .inr ⟨.inr k, c2, h2, ?_⟩⟩
      have c1 := cm h2
      rcases q with ⟨k', _⟩ | ⟨_, c3, e', z⟩
      · have k' : X.env.scope.names.lookup y = some .local := k'
        rcases L.free _ (PySem.mem_of_lookup k) rfl with k2 | k2 <;> rw [show X.env.scope.names.lookup y = _ from k2] at k' <;> cases k'
      · rw [c1] at e'
        cases e'
        exact cellK (I.freeC y _ c1) z
  · obtain ⟨w', z⟩ := I.cell y c (cm e)
    exact ⟨w', cellK (I.freeC y c (cm e)) z⟩
  · obtain ⟨v', o, ho, hd⟩ := I.cell y c (cm e)
    exact un.free c o ho (I.freeC y c (cm e)) (by simp)
  · show (σ ++ [some v]).length = (X.N ++ [x]).length
    rw [List.length_append, List.length_append, I.len]
    rfl
end
section
variable {x : Str} {X : Cx} {pins : List (Addr × Obj)} {σ : L2.St} {H HZ : Hp} {s s1 : Shared}
/-- a(e), in the def that got the lambda -/
theorem pe_actP {CXg : CXT} {Eg : XK} {Ng : List Str} {qg : Str} {sg : Scope} {g f c' : Addr} {cdg pm ctv : Value} {params : Arguments} {body : Expr} {scope : Scope} {k i : Nat} {a : Str} {pn : List (Addr × Obj)} {xe : Value → Shared → Prop} {W : WX} {tb : XK → TE} {p1 p2 : Pos} {ea : Expr} {t : TA}
    (I : Inv X pins σ H s) (L : LamP x X.env.scope scope) (nx : x ∉ X.N) (hf : s.heap.get? f = some (PySem.W.kla_obj "<lambda>" (X.env.qual ++ "<lambda>") params body scope (cloFrom X.env.cells scope.names []) pm c' ctv)) (hfn : H f = none) (hfr : f ∉ frs X.stack)
    (hbind : ∀ u, bindArgs (PySem.W.kla_fn "<lambda>" (X.env.qual ++ "<lambda>") params body scope (cloFrom X.env.cells scope.names []) pm (.ref c') ctv) ⟨[u], []⟩ = pure [(x, u)])
    (tk : L2N.Takes ((cxOf CXg X.prog X.w X.K X.mg X.base Ng qg sg g cdg X.A X.stack s H Eg).tr pn xe) W) (hr : Room (k + 1) (X.A.deeper (envOfC qg sg s.heap.objs.size g cdg)))
    (hbody : ∀ (A : Around) (outer : List Env) (s : Shared) (H : Hp) (E : XK), Room k (A.deeper (lamEnv X scope s.heap.objs.size f c')) → PE (lamCxP x X A outer s H E scope f c') body (tb E))
    (ha : PA ((cxOf CXg X.prog X.w X.K X.mg X.base Ng qg sg g cdg X.A X.stack s H Eg).tr pn xe) [ea] t) (hN : Ng[i]? = some a) (hv : Vis sg a)
    (he : starEach [ea] ((cxOf CXg X.prog X.w X.K X.mg X.base Ng qg sg g cdg X.A X.stack s H Eg).tr pn xe).env = (false, eval ea ((cxOf CXg X.prog X.w X.K X.mg X.base Ng qg sg g cdg X.A X.stack s H Eg).tr pn xe).env) :: starEach [] ((cxOf CXg X.prog X.w X.K X.mg X.base Ng qg sg g cdg X.A X.stack s H Eg).tr pn xe).env)
    (hd : (a == ("__debug__" : Str)) = false := by decide) (hcd : (a == ("__classdict__" : Str)) = false := by decide) :
    PE ((cxOf CXg X.prog X.w X.K X.mg X.base Ng qg sg g cdg X.A X.stack s H Eg).tr pn xe) (.Call (.Name a p1) [ea] [] p2)
      (fun σZ HZ Q => σZ[i]? = some (some (.ref f)) ∧ t σZ HZ fun vs H1 => ∃ (v : V) (E : XK), vs = [v] ∧ (∀ cls d H', E cls d H' → W cls d σZ H') ∧ H1 c' = some (CodeO c' (X.env.qual ++ "<lambda>")) ∧ tb E (σ ++ [some v]) H1 Q) := by
  refine ⟨fun pinsZ sZ σZ HZ Q IZ h => ?_⟩
  obtain ⟨hs, ht⟩ := h
  have keepf : ∀ {s' : Shared} {H' : Hp} {pz : List (Addr × Obj)} {σ' : L2.St}, Inv ((cxOf CXg X.prog X.w X.K X.mg X.base Ng qg sg g cdg X.A X.stack s H Eg).tr pn xe) pz σ' H' s' → s'.heap.get? f = some (PySem.W.kla_obj "<lambda>" (X.env.qual ++ "<lambda>") params body scope (cloFrom X.env.cells scope.names []) pm c' ctv) := fun J =>
    J.base.keep f _ hf hfn hfr (fun z => nomatch (show f ∈ ([] : List Addr) from z))
  refine wpAny_Call_Name_kw (thn ((pe_var (pos := p1) (i := i) hN hv hd hcd).run pinsZ sZ σZ HZ (fun v H1 => v = .ref f ∧ H1 = HZ) IZ ⟨.ref f, hs, rfl, rfl⟩) fun u s1 ⟨v, H1, I1, r1, q1⟩ => ?_)
  obtain ⟨ev, eH⟩ := q1
  subst ev
  rw [eH] at I1
  obtain rfl : u = Value.ref f := r1
  refine PySem.W.callWith_F ⟨_, _, _, _, keepf I1⟩ (thn (ha.run p2 pinsZ s1 σZ HZ _ I1 ht) fun us s2 ⟨vs, H2, I2, r2, v, E, ev, hW, hc, hb⟩ => ⟨⟨_, _, _, _, keepf I2⟩, ?_⟩) he rfl
  subst ev
  obtain ⟨u2, eu, ru⟩ : ∃ u2, us = [u2] ∧ RelV v u2 := by
    cases r2 with
    | cons ru rn =>
      cases rn
      exact ⟨_, rfl, ru⟩
  subst eu
  have of2 := keepf I2
  have un : Un (frs X.stack) [] H H2 s.heap s2.heap := I2.base
  obtain ⟨⟨oc, vs0, t0, hoc, hdc, hvc⟩, _, _⟩ := I2.hok c' _ hc
  have rc : codeAny (model X.prog X.w) (X.A.deeper (envOfC qg sg s.heap.objs.size g cdg)) (.call (.ref f) ⟨[u2], []⟩) (CR (L2N.CX X.prog X.w) (envOfC qg sg s.heap.objs.size g cdg :: X.stack) X.prog X.w H2 s2 Q E) s2 := by
    refine PySem.W.kla_callFunE hr.depth of2 rfl L.co L.gen rfl ⟨c', oc, vs0, t0, rfl, hoc, hdc, hvc⟩ ?_
    rw [hbind]
    refine wpAny_pure (wpAny_newFunctionEnv L.cell (fun y hy => by rw [List.mem_singleton.mp hy]; exact L.par) (fun h₁ hns hsb => ⟨I2.nolimit.fresh _ hsb, ?_⟩) L.kind)
    show codeAny _ _ (.expr body (lamEnv X scope s2.heap.objs.size f c')) _ _
    have kp : ∀ b o, s2.heap.get? b = some o → h₁.get? b = some o := fun b o e => hsb.extBut b o (Nat.ne_of_lt (Heap.lt_size e)) (Heap.get?_push_of_some _ e)
    have J := lam_startP (E := E) (f := f) (c' := c') (tk := s2.toks + [(x, u2)].length) I L nx ru I2.env0 hr.hd un hns kp
    refine PySem.W.kla_codeExpr (wpAny_mono ((hbody _ _ s2 H2 _ (hr.deeper _)).run [] _ _ H2 Q J hb) (fun v s' hq => ?_) fun e s' hq => hq)
    obtain ⟨w', H', J', rv, q⟩ := hq
    exact ⟨w', H', J'.os, J'.bare, J'.base, J'.hok, rv, q⟩
  refine wpAny_call (codeAny_mono rc fun r s' hq => ?_)
  cases r with
  | error e => exact tk e s' (L2N.XE.of_call I2 (fun cls d H' h => hW cls d H' h) hq)
  | ok fl =>
    cases fl with
    | ret u => exact I2.after hq
    | next => exact False.elim hq
    | brk => exact False.elim hq
    | cont => exact False.elim hq
end
/-- the def that calls what it got, with what came beside it -/
def GivesTo2 (k : Nat) (X : Cx) (Ng : List Str) (n : Str) (sg : Scope) (g : Addr) (cdg : Value) (bg : List Stmt) (a : Str) (q : Str) (TT : (XK → V → Hp → VK → Prop) → V → Hp → VK → Prop) : Prop :=
  ∀ (f c' : Addr) (s : Shared) (H : Hp) (Q : VK) (v2 : V) (tl : XK → V → Hp → VK → Prop),
    Room (k + 1) (X.A.deeper (envOfC n sg s.heap.objs.size g cdg)) → (∀ (W : WX) (pn : List (Addr × Obj)) (xe : Value → Shared → Prop) (p1 p2 : Pos) (ea : Expr) (t : TA), L2N.Takes ((cxOf CX0 X.prog X.w X.K X.mg X.base Ng n sg g cdg X.A X.stack s H E0).tr pn xe) W →
      PA ((cxOf CX0 X.prog X.w X.K X.mg X.base Ng n sg g cdg X.A X.stack s H E0).tr pn xe) [ea] t →
      starEach [ea] ((cxOf CX0 X.prog X.w X.K X.mg X.base Ng n sg g cdg X.A X.stack s H E0).tr pn xe).env = (false, eval ea ((cxOf CX0 X.prog X.w X.K X.mg X.base Ng n sg g cdg X.A X.stack s H E0).tr pn xe).env) :: starEach [] ((cxOf CX0 X.prog X.w X.K X.mg X.base Ng n sg g cdg X.A X.stack s H E0).tr pn xe).env →
      PE ((cxOf CX0 X.prog X.w X.K X.mg X.base Ng n sg g cdg X.A X.stack s H E0).tr pn xe) (.Call (.Name a p1) [ea] [] p2) (fun σZ HZ Q => σZ[0]? = some (some (.ref f)) ∧ t σZ HZ fun vs H1 => ∃ (v : V) (E : XK), vs = [v] ∧ (∀ cls d H', E cls d H' → W cls d σZ H') ∧ H1 c' = some (CodeO c' q) ∧ tl E v H1 Q)) →
    H c' = some (CodeO c' q) → TT tl v2 H Q →
    ∃ t, PSs (cxOf CX0 X.prog X.w X.K X.mg X.base Ng n sg g cdg X.A X.stack s H E0).nox bg t ∧ t { nx := fun _ H' => Q .non H', rt := Q } (L2.start Ng [.ref f, v2]) H
def tLamP (T : List (Addr × Str)) (TT : (XK → V → Hp → VK → Prop) → V → Hp → VK → Prop) (t : XK → TE) (t2 : TA) : TE := fun σ H Q => Tabs T H ∧ ∀ H1, ExtN H H1 → Tabs T H1 → t2 σ H1 fun vs H2 => ∃ v2, vs = [v2] ∧ H2 = H1 ∧ TT (fun E v H' Q' => t E (σ ++ [some v]) H' Q') v2 H2 Q
structure LamF2 (k : Nat) (P : Program) (w : World) (K : PySem.W.Frag) (mg : Str → Option Value) (base : Heap) (n a : Str) (TT : (XK → V → Hp → VK → Prop) → V → Hp → VK → Prop) : Prop where
  run : ∃ (g : Addr) (pg : Arguments) (bg : List Stmt) (sg : Scope) (dV kV doc pm cdv ct oc : Value) (an od : Option Addr) (osl : Array (Option Value)) (Ng : List Str) (b : Str),
    mg n = some (.ref g) ∧ PySem.W.keepIn K (.ref g) = true ∧ K.lookup g = some ⟨oc, od, .func (PySem.W.fnOf n n pg bg sg dV kV doc pm an cdv ct), osl⟩ ∧ PySem.W.codeIn K cdv n = true ∧ Binds K (PySem.W.fnOf n n pg bg sg dV kV doc pm an cdv ct) [a, b] [] ∧ FnScope Ng [a, b] sg ∧ Ng[0]? = some a ∧ Vis sg a ∧
      (a == ("__debug__" : Str)) = false ∧ (a == ("__classdict__" : Str)) = false ∧ ∀ (X : Cx) (q : Str), X.prog = P → X.w = w → X.K = K → X.mg = mg → X.base = base → GivesTo2 k X Ng n sg g cdv bg a q TT
section
variable {X : Cx}
/-- n(lambda x: body, e2) -/
theorem pe_lamP {T : List (Addr × Str)} {TT : (XK → V → Hp → VK → Prop) → V → Hp → VK → Prop} {n a x : Str} {c P : Addr} {k : Nat} {params : Arguments} {body e2 : Expr} {scope : Scope} {t : XK → TE} {t2 : TA} {p lpos pos : Pos} (F : LamF2 k X.prog X.w X.K X.mg X.base n a TT)
    (TB : TabB X.base X.mg c P) (hcode : X.env.code = .ref c) (hmT : (P, X.env.qual ++ "<lambda>") ∈ T) (hu : ∀ p ∈ T, p.1 = P → p.2 = X.env.qual ++ "<lambda>") (hr : Room (k + 2) X.A) (L : LamP x X.env.scope scope) (nx : x ∉ X.N) (hdef : defaultsOf params X.env = ([], []))
    (hbind : ∀ (q : Str) (cl : List (Str × Addr)) (pm cv ctv u : Value), bindArgs (PySem.W.kla_fn "<lambda>" q params body scope cl pm cv ctv) ⟨[u], []⟩ = pure [(x, u)])
    (hbody : ∀ (A : Around) (outer : List Env) (s : Shared) (H : Hp) (E : XK) (f c' : Addr), Room k (A.deeper (lamEnv X scope s.heap.objs.size f c')) → PE (lamCxP x X A outer s H E scope f c') body (t E))
    (h2 : PA X [e2] t2) (hst : X.stack = X.env :: X.outer) (hfm : X.env.frame = some X.env.locals) (hg : Gl X n := by rfl) (hdb : (n == ("__debug__" : Str)) = false := by decide)
    (he : starEach [.Lambda params body scope lpos, e2] X.env = (false, eval (.Lambda params body scope lpos) X.env) :: starEach [e2] X.env := by rfl) (hpl : (backTo pos (starEach [e2] X.env)).any (·.1) = false := by rfl) :
    PE X (.Call (.Name n p) [.Lambda params body scope lpos, e2] [] pos) (tLamP T TT t t2) := by
  obtain ⟨g, pg, bg, sg, dV, kV, doc, pm, cdv, ct, oc, an, od, osl, Ng, b, hm, hk, lk, hcg, hb, Sg, hNg, hva, hd, hcd, hG⟩ := F.run
  refine ⟨fun pins s σ H Q I h => ?_⟩
  obtain ⟨hT, h⟩ := h
  refine wpAny_Call_Name_kw (ld_glob I hg hm ?_ hdb)
  refine PySem.W.callWith_K (h₀ := X.base) I.ok.mod.kin hk ?_ he hpl
  rw [he]
  show wpAny _ _ (spliced ((false, eval (.Lambda params body scope lpos) X.env) :: backTo pos (starEach [e2] X.env))) _ _ s
  refine Calls.spliced_cons (lam_make2 I TB hcode hmT hu hT hdef (L.has I.ok) fun f c' pm' ctv H1 s' I1 eN T1 hf hfn hfr hco => ?_)
  have hfl : f ≠ X.env.locals ∧ f ∉ X.fs := by
    rw [hst] at hfr
    refine ⟨fun z => hfr ?_, fun z => hfr ?_⟩
    · exact List.mem_filterMap.mpr ⟨X.env, List.mem_cons_self, by rw [hfm, z]⟩
    · obtain ⟨e', he', q⟩ := List.mem_filterMap.mp z
      exact List.mem_filterMap.mpr ⟨e', List.mem_cons_of_mem _ he', q⟩
  have IP : Inv X (pins ++ [(f, PySem.W.kla_obj "<lambda>" (X.env.qual ++ "<lambda>") params body scope (cloFrom X.env.cells scope.names []) pm' c' ctv)]) σ H1 s' := I1.pins_of fun q hq => by
    rcases List.mem_append.mp hq with z | z
    · exact I1.pin q (List.mem_append_right _ z)
    · rw [List.mem_singleton.mp z]
      exact ⟨hf, hfn, hfl.1, hfl.2, fun v e => by cases e⟩
  refine thn (h2.run pos _ s' σ H1 _ IP (h H1 eN T1)) fun us s2 ⟨vs, H2, I2, r2, v2, ev, eH, q2⟩ => ?_
  subst ev
  subst eH
  obtain ⟨u2, eu, ru⟩ : ∃ u2, us = [u2] ∧ RelV v2 u2 := by
    cases r2 with
    | cons ru rn =>
      cases rn
      exact ⟨_, rfl, ru⟩
  subst eu
  have hpin := I2.pin (f, PySem.W.kla_obj "<lambda>" (X.env.qual ++ "<lambda>") params body scope (cloFrom X.env.cells scope.names []) pm' c' ctv) (by simp)
  have J : Inv X pins σ H2 s2 := I2.unpinned
  refine ⟨J.kIn, ?_⟩
  have rc : codeAny (model X.prog X.w) X.A (.call (.ref g) ⟨[.ref f, u2], []⟩) (CR CX0 X.stack X.prog X.w H2 s2 Q E0) s2 := by
    refine run_ofS (N := Ng) (ps := [a, b]) (us := [.ref f, u2]) (vs := [.ref f, v2]) lk hcg Sg hr J.env0 (by have z := hb s2 [.ref f, u2] J.kIn rfl; rw [List.append_nil] at z; exact z) (.cons rfl (.cons ru .nil)) rfl fun hr' => ?_
    obtain ⟨t', ht', hq'⟩ := hG X _ rfl rfl rfl rfl rfl f c' s2 H2 Q v2 (fun E v H' Q' => t E (σ ++ [some v]) H' Q') hr' (fun W pn xe p1 p2 ea t0 tk ha hea => pe_actP (i := 0) (tb := t) J L nx hpin.1 hpin.2.1 hfr (fun u => hbind _ _ _ _ _ u) tk hr' (fun A outer s H E hr2 => hbody A outer s H E f c' hr2) ha hNg hva hea hd hcd) hco q2
    exact ⟨t', ht'.nox, hq'⟩
  refine wpAny_call (codeAny_mono rc fun r s3 hq => ?_)
  cases r with
  | error e => exact (show False from hq).elim
  | ok fl =>
    cases fl with
    | ret u => exact J.after hq
    | next => exact False.elim hq
    | brk => exact False.elim hq
    | cont => exact False.elim hq
end
end Yk

set_option maxHeartbeats 4000000
namespace Yk
open PySem PySem.Spec PyProof.Rows L2 L2H LamX

/-! _law_refused: what a lambda lets out, its number told. -/
local macro_rules | `(tactic| walk_at "st") => `(tactic| first | with_reducible refine' r_tXf ?_)
/-- refused for the number v -/
def TRef (cN : Addr) (K : PySem.W.Frag) (n : Nat) : (XK → V → Hp → VK → Prop) → V → Hp → VK → Prop := fun tl v H Q => ∀ QQ : VK, tl (fun cls d H1 => ∃ dd, cls = .ref cN ∧ d = some dd ∧ H1 dd = some (.xd [("number", v)]) ∧ Eqd K H1 n v v ∧ ∀ H2, Ext [] H1 H2 → Q (.bl true) H2) v H QQ
abbrev s_law_refused : Stmt := top 17
theorem c_law_refused : FnScope ["_law_told", "_law_number_of", "error"] ["_law_told", "_law_number_of"] (defScope s_law_refused) := ⟨rfl, rfl, rfl, by decide +kernel, rfl, by decide +kernel, by decide +kernel⟩
theorem refused_lam {P : Program} {w : World} {K : PySem.W.Frag} {mg : Str → Option Value} {base : Heap} {f : Addr} {fd : FuncData} (F : FunD K "_law_refused" "_law_refused" (defArgs s_law_refused) (defBody s_law_refused) (defScope s_law_refused) [] [] f fd) (hm : mg "_law_refused" = some (.ref f))
    {cN cM : Addr} {nw : String} {bm : List Value} (T : Bt mg) (Y : XcT K mg "NoSuchLetter" cN nw bm) (NN : PySem.W.findIn K (.ref cN) "number" = some none) (eN : PySem.W.exmOne K (.ref cN) (.ref cN) = some true) (kM : PySem.W.kitOne K (.ref cN) (.ref cM) = some true) (mM : mg "Missing" = some (.ref cM)) {n : Nat}
    (G : FnT P w K mg base (n + 1) "_law_same" (spLike K (n + 1))) : LamF2 (n + 1) P w K mg base "_law_refused" "_law_told" (TRef cN K n) := by
  have hb : Binds K fd ["_law_told", "_law_number_of"] [] := F.bindsN (fun _ _ _ _ _ _ us hl => match us, hl with | [_, _], _ => rfl)
  have nd := c_law_refused.nd
  obtain ⟨oc, od, dV, kV, doc, pm, an, cdv, ct, osl, rfl, lk, hcd, hD, _⟩ := F.ex
  refine ⟨f, _, _, _, dV, kV, doc, pm, cdv, ct, oc, an, od, osl, _, _, hm, F.kp, lk, hcd, hb, c_law_refused, rfl, .inl rfl, rfl, rfl, fun X q e1 e2 e3 e4 e5 => ?_⟩
  subst e1 e2 e3 e4 e5
  intro fl c' s H Q v tl hr act hc h
  refine ⟨_, pss_cons (L2N.ps_try_as (X := (cxOf CX0 X.prog X.w X.K X.mg X.base _ "_law_refused" _ f cdv X.A X.stack s H E0).nox) (i := 2)
      rfl rfl nd rfl rfl ⟨rfl, by decide, .inl Y.hm⟩ takesN0 (fun W pn xe tk _ => pss_one (ps_expr (act W pn xe _ _ _ _ tk (pa_cons (pv 1) pa_nil) rfl)))
      (fun a oe cls d pn hz hf => pss_one (ps_ret (pe_and (pe_fnT G (L2H.roomH_mark (hr.mono (Nat.le_succ _)) _) (hot_suite hz hf) (pa_cons (pe_xf Y.xf NN hz.zc hf (pv 2)) (pa_cons (pv 1) pa_nil))) (pe_one (pe_callB (call_isXT Y hz hf) (by rfl) T.isinstance (by decide +kernel) (pa_cons (pv 2) (pa_cons (pe_glob (v := .ref cM) (by rfl) mM rfl) pa_nil)))))))) (pss_one (ps_ret pe_bl)), ?_⟩
  refine ⟨rfl, ?_⟩
  walk_at "run"
  refine ⟨_, _, rfl, fun cls d H1 e => ?_, hc, h _⟩
  obtain ⟨dd, rfl, rfl, hd, hq, k⟩ := e
  refine r_caught eN fun a ha => ?_
  walk_at "go"
  refine r_xf rfl rfl hd rfl ?_
  walk_at "go"
  refine ⟨_, _, rfl, hq, fun H2 e2 => ?_⟩
  walk_at "run"
  refine ⟨_, _, true, dd, _, rfl, fun u hu => hu, kM, rfl, rfl, e2 _ _ hd (fun z => nomatch z), ?_⟩
  walk_at "run"
  exact k _ e2
end Yk

set_option maxHeartbeats 1000000
/-! list(d.values()); == of dicts with int keys whose values are data. -/
namespace Yk
open PySem PySem.Spec PyProof.Rows L2
/-- the view d.values() at p -/
def valsO (p d : Addr) : HO := .ext fun h => h.IsValuesView p d
theorem valsO_ok {P : Program} {w : World} {H : Hp} {h : Heap} {p d : Addr} (e : h.get? p = some { cls := .type "dict_values", data := .fields #[.ref d] }) : ObjOk P w H h p (valsO p d) :=
  ⟨⟨_, e, rfl, rfl⟩, ⟨_, e⟩, fun h1 h2 x k => let ⟨o, ho, r⟩ := x; ⟨o, k o ho, r⟩⟩
section
variable {X : Cx}
def rValsK : V → List V → Hp → VK → Prop := fun x xs H Q => ∃ (a : Addr) (kvs : List (Key × V)), x = .ref a ∧ xs = [] ∧ H a = some (.dK kvs) ∧ ∀ p, H p = none → Q (.ref p) (upd H p (valsO p a))
theorem mt_valsK : MtR X "dict.values" rValsK := by
  intro pins s σ H x xs v us Q I rx rxs h
  obtain ⟨a, kvs, rfl, rfl, ha, q⟩ := h
  cases rx
  cases rxs
  obtain ⟨z, lo, vs, rk, hd⟩ := (show ObjOk X.prog X.w H s.heap a (.dK kvs) from I.hok a _ ha)
  refine call_meetsIn PySem.F.slot_dict_values hd.typeIs PySem.F.entry_dict_values (PySem.F.args_dict_values_1 _) (meets_dict_values (mixKind X.prog X.w) a lo) ⟨⟨vs, hd⟩, ?_⟩
  have hf : H s.heap.objs.size = none := I.hok.fresh (Nat.le_refl _)
  exact ⟨.ref s.heap.objs.size, upd H s.heap.objs.size (valsO s.heap.objs.size a), I.laid (t' := s.toks) (fun b u e => Heap.get?_push_of_some _ e) (Nat.le_refl _) (valsO_ok (Heap.get?_push_size _ rfl)), rfl, q _ hf⟩
def rListVals : List V → Hp → VK → Prop := fun xs H Q => ∃ (p a : Addr) (kvs : List (Key × V)), xs = [.ref p] ∧ H p = some (valsO p a) ∧ H a = some (.dK kvs) ∧ ∀ q, H q = none → Q (.ref q) (upd H q (.lst (kvs.map (·.2))))
theorem call_listVals (hc : X.calm = true) : CallR X (.type "list") rListVals := by
  intro pins s σ H xs us Q I r h
  obtain ⟨p, a, kvs, e, hp, ha, q⟩ := h
  subst e
  obtain ⟨u, eu, rx⟩ := vals1 r
  subst eu
  obtain rfl : u = Value.ref p := rx
  obtain ⟨z, lo, vs, rk, hd⟩ := (show ObjOk X.prog X.w H s.heap a (.dK kvs) from I.hok a _ ha)
  have hv : s.heap.IsValuesView p a := (show ObjOk X.prog X.w H s.heap p (valsO p a) from I.hok p _ hp).1
  obtain ⟨ep, hat⟩ := hd.dictAt
  have hl : kvs.length = vs.length := Paired.length rk
  refine PySem.W.kdl_call (PySem.W.kdl_values (r := p) (d := a) (knd := mixKind X.prog X.w) (kvs := vs) (ep := ep)) (I.ok.hd hc) ⟨hv, hat⟩ (by rw [← hl]; exact z) fun h' tk acc' c' hkeep hS hacc => ?_
  refine ⟨.ref s.heap.objs.size, upd H s.heap.objs.size (.lst (kvs.map (·.2))), I.laid hkeep (Nat.le_refl _) (show ObjOk X.prog X.w _ _ _ (.lst (kvs.map (·.2))) from ⟨?_, acc'.toList, c', ?_, ?_⟩), rfl, q _ (I.hok.fresh (Nat.le_refl _))⟩
  · rw [List.length_map]; exact z
  · have el : acc'.toList.length = acc'.size := by simp
    refine vals_of_at (by rw [List.length_map, el, hacc.1, hl]) fun j x w h1 h2 => ?_
    obtain ⟨k, hky⟩ := hacc.2 j w (by rw [← Array.getElem?_toList]; exact h2)
    rw [List.getElem?_map] at h1
    cases hk : kvs[j]? with
    | none => rw [hk] at h1; cases h1
    | some y =>
      rw [hk] at h1
      cases h1
      obtain ⟨y', e1, e2⟩ := L2.DX.pget rk hky
      rw [hk] at e1
      cases e1
      exact e2.2
  · rw [Array.toArray_toList]; exact hS
end
/-- == of dicts, by the data of their values -/
def eqvK (ds es : List (Key × PyData)) : Bool := ds.length == es.length && ds.all fun p => match es.find? fun q => decide (q.1 = p.1) with
  | some q => PyData.eqv p.2 q.2
  | none => false
def DKs (K : PySem.W.Frag) (H : Hp) (ks : List (Key × V)) (ds : List (Key × PyData)) : Prop := Paired (fun (p : Key × V) (q : Key × PyData) => p.1 = q.1 ∧ Dp K H p.2 q.2 ∧ SeqAt.shaped q.2 = true) ks ds
section
variable {X : Cx} {pins : List (Addr × Obj)} {σ : L2.St} {H : Hp} {s : Shared}
theorem find_D (I : Inv X pins σ H s) (k : Key) : ∀ {ls : List (Key × V)} {vb : List (Key × Value)} {es : List (Key × PyData)}, KV ls vb → DKs X.K H ls es →
    (match es.find? fun q => decide (q.1 = k) with
      | some q => ∃ y as, valueAt vb k = some y ∧ Reads s.heap y q.2 as ∧ SeqAt.shaped q.2 = true
      | none => valueAt vb k = none) := by
  intro ls vb es r d
  unfold KV at r
  unfold DKs at d
  induction r generalizing es with
  | nil =>
    cases d
    rfl
  | @cons p q ps qs h t ih =>
    cases d with
    | @cons _ e _ et h2 t2 =>
      obtain ⟨h1, hr⟩ := h
      obtain ⟨g1, g2, g3⟩ := h2
      have g := ih t2
      obtain ⟨qk, qv⟩ := q
      obtain ⟨ek, ed⟩ := e
      have e1 : p.1 = qk := h1
      have e2 : p.1 = ek := g1
      subst e1
      subst e2
      by_cases hk : p.1 = k
      · obtain ⟨as, rr⟩ := Dp.reads I ed p.2 qv g2 hr
        simp only [List.find?_cons, hk, decide_true]
        exact ⟨qv, as, by simp [valueAt, hk], rr, g3⟩
      · simp only [List.find?_cons, hk, decide_false]
        simp only [valueAt, List.find?_cons, hk, decide_false] at g ⊢
        exact g
theorem hits_D (I : Inv X pins σ H s) {A : Around} (hu : A.units + 64 < cLine) {ls : List (Key × V)} {vb : List (Key × Value)} {es : List (Key × PyData)} (rb : KV ls vb) (db : DKs X.K H ls es) :
    ∀ {ks : List (Key × V)} {va : List (Key × Value)} {ds : List (Key × PyData)}, KV ks va → DKs X.K H ks ds → PySem.W.KeqHitsP X.prog X.w A s vb va (ds.all fun p => match es.find? fun q => decide (q.1 = p.1) with
      | some q => PyData.eqv p.2 q.2
      | none => false) := by
  intro ks va ds r d
  unfold KV at r
  unfold DKs at d
  induction r generalizing ds with
  | nil =>
    cases d
    exact .nil
  | @cons p q ps qs h t ih =>
    cases d with
    | @cons _ e _ et h2 t2 =>
      obtain ⟨h1, hr⟩ := h
      obtain ⟨g1, g2, g3⟩ := h2
      have g := ih t2
      obtain ⟨qk, qv⟩ := q
      obtain ⟨ek, ed⟩ := e
      have e1 : p.1 = qk := h1
      have e2 : p.1 = ek := g1
      subst e1
      subst e2
      have f := find_D I p.1 rb db
      rw [List.all_cons]
      cases hf : es.find? fun q => decide (q.1 = p.1) with
      | none =>
        rw [hf] at f
        simp only [hf, Bool.false_and]
        exact .miss f
      | some u =>
        rw [hf] at f
        obtain ⟨y, bs, hy, ry, sy⟩ := f
        obtain ⟨as, rr⟩ := Dp.reads I ed p.2 qv g2 hr
        simp only [hf]
        exact .hit hy (SeqAt.eqAt_reads _ _ A s _ _ as bs rr ry (SeqAt.canLay_of_shaped g3) (SeqAt.canLay_of_shaped sy) (SeqAt.room_of_shaped g3 hu)).eqP g
end
section
variable {X : Cx}
def rEqDK (K : PySem.W.Frag) : R2 := fun x y H Q => ∃ a b ks ls ds es, x = .ref a ∧ y = .ref b ∧ H a = some (.dK ks) ∧ H b = some (.dK ls) ∧ DKs K H ks ds ∧ DKs K H ls es ∧ Q (.bl (eqvK ds es)) H
theorem op_eqDK (hu : X.A.units + 65 < cLine) : OpR X (compareOp .Eq) (rEqDK X.K) := by
  intro pins s σ H x y v u Q I rx ry h
  obtain ⟨a, b, ks, ls, ds, es, rfl, rfl, ea, eb, da', db', q⟩ := h
  obtain rfl : v = Value.ref a := rx
  obtain rfl : u = Value.ref b := ry
  obtain ⟨_, ya, va, ra, da⟩ := (show ObjOk X.prog X.w H s.heap a (.dK ks) from I.hok a _ ea)
  obtain ⟨_, yb, vb, rb, db⟩ := (show ObjOk X.prog X.w H s.heap b (.dK ls) from I.hok b _ eb)
  have l1 : va.length = ds.length := (ra.length).symm.trans (Paired.length da')
  have l2 : vb.length = es.length := (rb.length).symm.trans (Paired.length db')
  refine PySem.W.rcP_dicts (knd := mixKind X.prog X.w) ya yb da db (by omega) (fun _ => hits_D I (A := X.A.in1) (by show X.A.units + 1 + 64 < cLine; omega) rb db' ra da') _ _ ?_
  rw [l1, l2]
  exact ⟨.bl _, H, I, rfl, q⟩
end
end Yk

set_option maxHeartbeats 1000000
/-! xs.remove(x) by equality of data; list(d.values()). -/
namespace Yk
open PySem PySem.Spec PyProof.Rows L2
/-- l.remove(x): the first item that is == x is gone -/
def rRemD (K : PySem.W.Frag) : V → List V → Hp → VK → Prop := fun x xs H Q => ∃ (a : Addr) (y : V) (d : PyData) (ls : List V) (ds : List PyData) (j : Nat), x = V.ref a ∧ xs = [y] ∧ H a = some (.lst ls) ∧ DpAll K H ls ds ∧ Dp K H y d ∧ PyData.plainAll ds = true ∧ d.plain = true ∧ d.depth ≤ 60 ∧
  PySem.SeqAt.dataPlace ds d = some j ∧ Q .non (upd H a (.lst (ls.eraseIdx j)))
section
variable {X : Cx}
theorem mt_remD (hu : X.A.units + 65 < cLine) : MtR X "list.remove" (rRemD X.K) := by
  intro pins s σ H x xs v us Q I rx rxs h
  obtain ⟨a, y, d, ls, ds, j, rfl, rfl, hH, ha, hy, pl, pd, dd, hp, q⟩ := h
  cases rx
  cases rxs with
  | cons ry rt =>
    rename_i uy ut
    cases rt
    obtain ⟨bs, r1⟩ := Dp.reads I d y uy hy ry
    obtain ⟨z, its, n, r, hl, e0⟩ := I.lstM hH
    obtain ⟨as, h4⟩ := Dp.readsAll I ds _ its ha r
    have hmin : min (PyData.depthAll ds) d.depth ≤ d.depth := Nat.min_le_right _ _
    refine PySem.SeqAt.remove_list_data (vs := its.toArray) ⟨_, e0, rfl, n, rfl⟩ (by simpa using h4) r1 pl pd (by omega) hp (by rw [List.size_toArray, ← hl]; exact z) ?_
    refine ⟨.non, _, I.lset (its' := its.eraseIdx j) hH e0 ?_ (r.eraseIdx j) ?_, rfl, q⟩
    · show its.toArray.eraseIdxIfInBounds j = (its.eraseIdx j).toArray
      rw [List.eraseIdxIfInBounds_toArray]
    · have := List.length_eraseIdx_le (l := ls) (i := j)
      omega
end
end Yk

set_option maxHeartbeats 4000000
namespace Yk
open PySem PySem.Spec PyProof.Rows L2

local macro_rules | `(tactic| walk_at "st") => `(tactic| first
  | with_reducible refine' r_tAt ?_
  | ((with_reducible refine' r_fld ?h1 ?h2 ?h3); (case h1 => first | assumption | exact upd_same); (case h2 => first | walk_at "lk" | rfl))
  | with_reducible refine' r_sAt ?_
  | ((with_reducible refine' r_putU ?h1 ?h2); (case h1 => (repeat refine putF_lt ?_); decide))
  | ((with_reducible refine' r_put ?h1 ?h2 ?h3); (case h1 => first | assumption | exact upd_same); (case h2 => (repeat refine putF_lt ?_); decide))
  | with_reducible refine' r_tMt ?_
  | ((with_reducible refine' r_met ?h1 ?h2 ?h3); (case h1 => first | assumption | exact upd_same); (case h2 => first | walk_at "lk" | rfl))
  | with_reducible refine' r_tCr ?_
  | with_reducible refine' r_tCrK ?_
  | with_reducible refine' r_chain ?_)
local macro_rules | `(tactic| walk_at "st") => `(tactic| first
  | with_reducible refine' r_dget ?_
  | with_reducible refine' r_dc ?_
  | with_reducible refine' r_iVals ?_
  | with_reducible refine' r_dnotin ?_
  | with_reducible refine' r_din ?_
  | with_reducible refine' r_iItems ?_
  | with_reducible refine' r_iKeysT ?_
  | with_reducible refine' r_tget1 ?_
  | with_reducible refine' r_tget2 ?_
  | with_reducible refine' r_dput ?_
  | with_reducible refine' r_tPr ?_
  | ((with_reducible refine' r_prp2 ?h1 ?h2); (case h1 => first | assumption | exact upd_same))
  | with_reducible refine' r_par3 ?_
  | ((with_reducible refine' r_dnT ?_); (intro np hnp))
  | ((with_reducible refine' r_dnK ?_); (intro np hnp)))
/-! A bag of letters. -/
def LbFs (d : Addr) (n : Int) : List (Str × V) := [("_letters", .ref d), ("_coming", .int n)]
theorem lk_Lb_letters {d : Addr} {n : Int} : List.lookup ("_letters" : Str) (LbFs d n) = some (V.ref d) := by kernel_rfl
theorem lk_Lb_coming {d : Addr} {n : Int} : List.lookup ("_coming" : Str) (LbFs d n) = some (V.int n) := by kernel_rfl
theorem lk_Lb_no {d : Addr} {n : Int} {x : Str} (h : (x == ("_letters" : Str)) = false) (h2 : (x == ("_coming" : Str)) = false) : List.lookup x (LbFs d n) = none := by
  unfold LbFs
  rw [List.lookup_cons, h, List.lookup_cons, h2]
  rfl
theorem put_Lb_coming {d : Addr} {n m : Int} : putF "_coming" (V.int m) (LbFs d n) = LbFs d m := by kernel_rfl
local macro_rules | `(tactic| walk_at "lk") => `(tactic| first | with_reducible exact lk_Lb_letters | with_reducible exact lk_Lb_coming | exact lk_Lb_no (by decide +kernel) (by decide +kernel))
section
variable {K : PySem.W.Frag} {H H1 : Hp} {T : List Addr}
mutual
theorem dpf (e : Ext T H H1) (nt : NoTup H T) (nl : NoLst H T) : ∀ {v : V} {d : PyData}, Dp K H v d → Dp K H1 v d
  | _, _, .non => .non
  | _, _, .bl b => .bl b
  | _, _, .int i => .int i
  | _, _, .str z => .str z
  | _, _, .lst h g => .lst (lstF e h nl) (dpAllf e nt nl g)
  | _, _, .tup h g => .tup (tupF e h nt) (dpAllf e nt nl g)
theorem dpAllf (e : Ext T H H1) (nt : NoTup H T) (nl : NoLst H T) : ∀ {vs : List V} {ds : List PyData}, DpAll K H vs ds → DpAll K H1 vs ds
  | _, _, .nil => .nil
  | _, _, .cons h g => .cons (dpf e nt nl h) (dpAllf e nt nl g)
end
end
/-- a letter, as data -/
def Lt (K : PySem.W.Frag) (H : Hp) (v : V) (d : PyData) : Prop := Dp K H v d ∧ SeqAt.shaped d = true
/-- the bag at a: its dict stands at d, its letters, the number that comes next -/
def LbAt (cB : Addr) (K : PySem.W.Frag) (H : Hp) (d a : Addr) (c : List (Int × PyData)) (n : Nat) : Prop := ∃ dx l, H a = some (.ins cB dx (LbFs d n)) ∧ H d = some (.dK l) ∧ IT (Lt K H) l c
theorem Lt.f {K : PySem.W.Frag} {H H1 : Hp} {T : List Addr} {v : V} {d : PyData} (h : Lt K H v d) (e : Ext T H H1) (nt : NoTup H T) (nl : NoLst H T) : Lt K H1 v d := ⟨dpf e nt nl h.1, h.2⟩
/-- the letter is out -/
def gd {α : Type} (c : List (Int × α)) (k : Int) : List (Int × α) := c.filter fun p => decide (p.1 ≠ k)
theorem IT.drop {α : Type} {R : V → α → Prop} {l : List (Key × V)} {c : List (Int × α)} (h : IT R l c) (k : Int) : IT R (dropK l (.inl k)) (gd c k) := by
  unfold dropK gd
  induction h with
  | nil => exact .nil
  | @cons k' v y l c a _ ih =>
    rw [List.filter_cons, List.filter_cons]
    by_cases e : k' = k
    · subst e
      rw [if_neg (by simp), if_neg (by simp)]
      exact ih
    · rw [if_pos (by simpa using e), if_pos (by simpa using e)]
      exact .cons a ih
/-- the letters of a row, as data -/
def LtAll (K : PySem.W.Frag) (H : Hp) (ls : List V) (c : List (Int × PyData)) : Prop := Rel (fun v p => Lt K H v p.2) ls c
theorem IT.vals {K : PySem.W.Frag} {H : Hp} {l : List (Key × V)} {c : List (Int × PyData)} (h : IT (Lt K H) l c) : LtAll K H (l.map (·.2)) c := by
  induction h with
  | nil => exact .nil
  | cons a _ ih => exact .cons a ih
theorem IT.dks {K : PySem.W.Frag} {H : Hp} {l : List (Key × V)} {c : List (Int × PyData)} (h : IT (Lt K H) l c) : DKs K H l (c.map fun p => ((.inl p.1 : Key), p.2)) := by
  unfold DKs
  induction h with
  | nil => exact .nil
  | cons a _ ih => exact .cons ⟨rfl, a.1, a.2⟩ ih
section
variable {P : Program} {w : World} {K : PySem.W.Frag} {mg : Str → Option Value} {base : Heap} {f : Addr} {fd : FuncData}
def spLbInit (cB : Addr) : Sp := fun vs H Q _ => ∃ (a dx : Addr), vs = [.ref a] ∧ H a = some (.ins cB dx []) ∧ ∀ d, H d = none → d ≠ a → Q .non (upd (upd H d (.dK [])) a (.ins cB dx (LbFs d 0)))
abbrev s_Bag___init__ : Stmt := inClass (top 6) 0
theorem c_Bag___init__ : FnScope ["self"] ["self"] (defScope s_Bag___init__) := ⟨rfl, rfl, rfl, by decide +kernel, rfl, by decide +kernel, by decide +kernel⟩
theorem f_Bag___init__ (F : FunD K "__init__" "Bag.__init__" (defArgs s_Bag___init__) (defBody s_Bag___init__) (defScope s_Bag___init__) [] [] f fd) {cB : Addr} (TBag : Ct K mg "Bag" cB ["_letters", "_coming"]) : FnOk P w K mg base CX0 1 f fd ["self"] (spLbInit cB) := by
  refine ok_meth F c_Bag___init__ (fun vs H Q E h => ?_) (fun cdv A outer s H vs Q E hr h => ?_)
  · obtain ⟨a, dx, rfl, _⟩ := h
    rfl
  · obtain ⟨a, dx, rfl, ha, k⟩ := h
    have nd := c_Bag___init__.nd
    refine ⟨_, (pss_cons (ps_at TBag (by decide +kernel) (pv 0) pe_dnewK)
      (pss_one (ps_at TBag (by decide +kernel) (pv 0) pe_int))), ?_⟩
    show (_ : TS) _ [some _] _
    try dsimp only [cxOf, Cx.nox]
    walk_at "run"
    rename_i d hd
    have hda : d ≠ a := fun z => by rw [z, ha] at hd; cases hd
    have ha2 : upd H d (.dK []) a = some (.ins cB dx []) := by rw [upd_ne hda.symm]; exact ha
    refine r_put ha2 (by decide) ?_
    walk_at "run"
    exact k d hd hda
def spLbHas (cB : Addr) (K : PySem.W.Frag) : Sp := fun vs H Q _ => ∃ (d a : Addr) (c : List (Int × PyData)) (n : Nat) (v : V) (x : PyData), vs = [.ref a, v] ∧ LbAt cB K H d a c n ∧ Dp K H v x ∧ Q (.bl (match x with | .int i => (gv c i).isSome | _ => false)) H
abbrev s_Bag___contains__ : Stmt := inClass (top 6) 8
theorem c_Bag___contains__ : FnScope ["self", "number"] ["self", "number"] (defScope s_Bag___contains__) := ⟨rfl, rfl, rfl, by decide +kernel, rfl, by decide +kernel, by decide +kernel⟩
theorem f_Bag___contains__ (F : FunD K "__contains__" "Bag.__contains__" (defArgs s_Bag___contains__) (defBody s_Bag___contains__) (defScope s_Bag___contains__) [] [] f fd) {cB : Addr} (TBag : Ct K mg "Bag" cB ["_letters", "_coming"]) (Fis_number : Fn P w K mg base 1 "is_number" (spIsNumD K)) : FnOk P w K mg base CX0 2 f fd ["self", "number"] (spLbHas cB K) := by
  refine ok_meth F c_Bag___contains__ (fun vs H Q E h => ?_) (fun cdv A outer s H vs Q E hr h => ?_)
  · obtain ⟨d, a, c, n, v, x, rfl, _⟩ := h
    rfl
  · obtain ⟨d, a, c, n, v, x, rfl, ⟨dx, l, ha, hd, hl⟩, hv, k⟩ := h
    have nd := c_Bag___contains__.nd
    refine ⟨_, (pss_one (ps_ret (pe_and (pe_fn Fis_number (hr.mono (by decide)) (pa_cons (pv 1) pa_nil)) (pe_one (pe_cmp (pc_din (hu_of hr) (pv 1) (pe_at TBag (by decide +kernel) (pv 0)))))))), ?_⟩
    show (_ : TS) _ [some _, some _] _
    try dsimp only [cxOf, Cx.nox]
    walk_at "go"
    refine ⟨v, x, rfl, hv, ?_⟩
    cases hv with
    | int i =>
      walk_at "run"
      refine ⟨d, _, rfl, DGet.k (k := .inl i) hd, ?_⟩
      rcases hl.val i with ⟨e1, e2⟩ | ⟨v, y, e1, e2, _⟩
      · rw [e1]
        simp only [e2] at k
        exact k
      · rw [e1]
        simp only [e2] at k
        exact k
    | non => walk_at "run"; exact k
    | bl b => walk_at "run"; exact k
    | str x => walk_at "run"; exact k
    | lst h g => walk_at "run"; exact k
    | tup h g => walk_at "run"; exact k
def spLbLen (cB : Addr) (K : PySem.W.Frag) : Sp := fun vs H Q _ => ∃ (d a : Addr) (c : List (Int × PyData)) (n : Nat), vs = [.ref a] ∧ LbAt cB K H d a c n ∧ Q (.int (c.length : Int)) H
abbrev s_Bag___len__ : Stmt := inClass (top 6) 10
theorem c_Bag___len__ : FnScope ["self"] ["self"] (defScope s_Bag___len__) := ⟨rfl, rfl, rfl, by decide +kernel, rfl, by decide +kernel, by decide +kernel⟩
theorem f_Bag___len__ (F : FunD K "__len__" "Bag.__len__" (defArgs s_Bag___len__) (defBody s_Bag___len__) (defScope s_Bag___len__) [] [] f fd) {cB : Addr} (T : Bt mg) (TBag : Ct K mg "Bag" cB ["_letters", "_coming"]) : FnOk P w K mg base CX0 1 f fd ["self"] (spLbLen cB K) := by
  refine ok_meth F c_Bag___len__ (fun vs H Q E h => ?_) (fun cdv A outer s H vs Q E hr h => ?_)
  · obtain ⟨d, a, c, n, rfl, _⟩ := h
    rfl
  · obtain ⟨d, a, c, n, rfl, ⟨dx, l, ha, hd, hl⟩, k⟩ := h
    have nd := c_Bag___len__.nd
    refine ⟨_, (pss_one (ps_ret (pe_callB call_lenD (by rfl) T.len (by decide +kernel) (pa_cons (pe_at TBag (by decide +kernel) (pv 0)) pa_nil)))), ?_⟩
    show (_ : TS) _ [some _] _
    try dsimp only [cxOf, Cx.nox]
    walk_at "run"
    refine ⟨d, l, rfl, hd, ?_⟩
    rw [hl.len]
    exact k
def spLbTrue (cB : Addr) : Sp := fun vs H Q _ => ∃ (a dx : Addr) (fs : List (Str × V)), vs = [.ref a] ∧ H a = some (.ins cB dx fs) ∧ Q (.bl true) H
abbrev s_Bag___bool__ : Stmt := inClass (top 6) 11
theorem c_Bag___bool__ : FnScope ["self"] ["self"] (defScope s_Bag___bool__) := ⟨rfl, rfl, rfl, by decide +kernel, rfl, by decide +kernel, by decide +kernel⟩
theorem f_Bag___bool__ (F : FunD K "__bool__" "Bag.__bool__" (defArgs s_Bag___bool__) (defBody s_Bag___bool__) (defScope s_Bag___bool__) [] [] f fd) {cB : Addr} (T : Bt mg) : FnOk P w K mg base CX0 1 f fd ["self"] (spLbTrue cB) := by
  refine ok_meth F c_Bag___bool__ (fun vs H Q E h => ?_) (fun cdv A outer s H vs Q E hr h => ?_)
  · obtain ⟨a, dx, fs, rfl, _⟩ := h
    rfl
  · obtain ⟨a, dx, fs, rfl, ha, k⟩ := h
    have nd := c_Bag___bool__.nd
    refine ⟨_, (pss_one (ps_ret pe_bl)), ?_⟩
    show (_ : TS) _ [some _] _
    try dsimp only [cxOf, Cx.nox]
    walk_at "run"
    exact k
def spLbPut (cB : Addr) (K : PySem.W.Frag) : Sp := fun vs H Q _ => ∃ (d a : Addr) (c : List (Int × PyData)) (n : Nat) (v1 v2 v3 : V) (x1 x2 x3 : PyData), vs = [.ref a, v1, v2, v3] ∧ LbAt cB K H d a c n ∧ c.length ≤ 1000 ∧ n ≤ 1000 ∧ Dp K H v1 x1 ∧ Dp K H v2 x2 ∧ Dp K H v3 x3 ∧ SeqAt.shaped (.tuple [.int n, x1, x2, x3]) = true ∧
  ∀ H', Ext [a, d] H H' → LbAt cB K H' d a (gp c n (.tuple [.int n, x1, x2, x3])) (n + 1) → Q (.int (n : Int)) H'
abbrev s_Bag_put : Stmt := inClass (top 6) 1
theorem c_Bag_put : FnScope ["self", "channel", "tick", "value", "number"] ["self", "channel", "tick", "value"] (defScope s_Bag_put) := ⟨rfl, rfl, rfl, by decide +kernel, rfl, by decide +kernel, by decide +kernel⟩
theorem f_Bag_put (F : FunD K "put" "Bag.put" (defArgs s_Bag_put) (defBody s_Bag_put) (defScope s_Bag_put) [] [] f fd) {cB : Addr} (TBag : Ct K mg "Bag" cB ["_letters", "_coming"]) : FnOk P w K mg base CX0 1 f fd ["self", "channel", "tick", "value"] (spLbPut cB K) := by
  refine ok_meth F c_Bag_put (fun vs H Q E h => ?_) (fun cdv A outer s H vs Q E hr h => ?_)
  · obtain ⟨d, a, c, n, v1, v2, v3, x1, x2, x3, rfl, _⟩ := h
    rfl
  · obtain ⟨d, a, c, n, v1, v2, v3, x1, x2, x3, rfl, ⟨dx, l, ha, hd, hl⟩, c1000, n1000, h1, h2, h3, hs, k⟩ := h
    have nd := c_Bag_put.nd
    refine ⟨_, (pss_cons (ps_set (i := 4) nd rfl (by first | exact Or.inl rfl | exact Or.inr rfl) (pe_at TBag (by decide +kernel) (pv 0)))
      (pss_cons (ps_dput (hu_of hr) (pe_at TBag (by decide +kernel) (pv 0)) (pv 4) (pe_tup (pa_cons (pv 4) (pa_cons (pv 1) (pa_cons (pv 2) (pa_cons (pv 3) pa_nil))))) (by rfl))
      (pss_cons (ps_at TBag (by decide +kernel) (pv 0) (pe_op op_add (pv 4) pe_int))
      (pss_one (ps_ret (pv 4)))))), ?_⟩
    show (_ : TS) _ [some _, some _, some _, some _, none] _
    try dsimp only [cxOf, Cx.nox]
    have lc := hl.len
    have hda : d ≠ a := fun z => by rw [z, ha] at hd; cases hd
    walk_at "run"
    rename_i t ht
    have ha1 : upd H t (.tup [.int (n : Int), v1, v2, v3]) a = some (.ins cB dx (LbFs d n)) := by rw [upd_ne (ne_of_none ha ht)]; exact ha
    have hd1 : upd H t (.tup [.int (n : Int), v1, v2, v3]) d = some (.dK l) := by rw [upd_ne (ne_of_none hd ht)]; exact hd
    have ht1 : SqT K (upd H t (.tup [.int (n : Int), v1, v2, v3])) t [.int (n : Int), v1, v2, v3] := by walk_at "sq"
    have e0 : Ext [] H (upd H t (.tup [.int (n : Int), v1, v2, v3])) := Ext.refl.new ht
    generalize upd H t (.tup [.int (n : Int), v1, v2, v3]) = H1 at *
    refine ⟨a, dx, _, _, rfl, ha1, lk_Lb_letters, ?_⟩
    walk_at "run"
    refine ⟨d, _, rfl, DPut.k (k := .inl (n : Int)) hd1 (Nat.lt_of_le_of_lt (by omega : l.length ≤ 4000) (by decide)), ?_⟩
    have ha2 : upd H1 d (.dK (putK l (.inl (n : Int)) (.ref t))) a = some (.ins cB dx (LbFs d n)) := by rw [upd_ne hda.symm]; exact ha1
    walk_at "run"
    refine ⟨a, dx, _, rfl, ha2, show 2 < 1000 by decide, ?_⟩
    walk_at "run"
    rw [put_Lb_coming]
    have e5 : Ext [d] H1 (upd H1 d (.dK (putK l (.inl (n : Int)) (.ref t)))) := Ext.refl.at_ List.mem_cons_self
    have hd2 : upd H1 d (.dK (putK l (.inl (n : Int)) (.ref t))) d = some (.dK (putK l (.inl (n : Int)) (.ref t))) := upd_same
    generalize upd H1 d (.dK (putK l (.inl (n : Int)) (.ref t))) = H2 at *
    have e6 : Ext [a] H2 (upd H2 a (.ins cB dx (LbFs d ((n : Int) + 1)))) := Ext.refl.at_ List.mem_cons_self
    have ha3 : upd H2 a (.ins cB dx (LbFs d ((n : Int) + 1))) a = some (.ins cB dx (LbFs d ((n : Int) + 1))) := upd_same
    have hd3 : upd H2 a (.ins cB dx (LbFs d ((n : Int) + 1))) d = some (.dK (putK l (.inl (n : Int)) (.ref t))) := by rw [upd_ne hda]; exact hd2
    generalize upd H2 a (.ins cB dx (LbFs d ((n : Int) + 1))) = H3 at *
    have tr : ∀ {v : V} {x : PyData}, Dp K H v x → Dp K H3 v x := fun z => dpf e6 (no_ins ha2).1 (no_ins ha2).2 (dpf e5 (no_dk hd1).1 (no_dk hd1).2 (dpx0 e0 z))
    have ht3 : SqT K H3 t [.int (n : Int), v1, v2, v3] := tupF e6 (tupF e5 ht1 (no_dk hd1).1) (no_ins ha2).1
    have hn : Lt K H3 (.ref t) (.tuple [.int (n : Int), x1, x2, x3]) := ⟨.tup ht3 (.cons (.int _) (.cons (tr h1) (.cons (tr h2) (.cons (tr h3) .nil)))), hs⟩
    refine k _ ((e0.mono fun _ z => nomatch z).trans ((e5.mono fun _ z => by simp at z; simp [z]).trans (e6.mono fun _ z => by simp at z; simp [z]))) ⟨dx, _, ?_, hd3, (hl.imp fun _ _ z => ⟨tr z.1, z.2⟩).put hn⟩
    rw [ha3]
    rfl
def spLbLetters (cB : Addr) (K : PySem.W.Frag) : Sp := fun vs H Q _ => ∃ (d a : Addr) (c : List (Int × PyData)) (n : Nat), vs = [.ref a] ∧ LbAt cB K H d a c n ∧ ∀ p ls H', H p = none → Ext [] H H' → H' p = some (.lst ls) → LtAll K H' ls c → Q (.ref p) H'
abbrev s_Bag_letters : Stmt := inClass (top 6) 4
theorem c_Bag_letters : FnScope ["self"] ["self"] (defScope s_Bag_letters) := ⟨rfl, rfl, rfl, by decide +kernel, rfl, by decide +kernel, by decide +kernel⟩
theorem f_Bag_letters (F : FunD K "letters" "Bag.letters" (defArgs s_Bag_letters) (defBody s_Bag_letters) (defScope s_Bag_letters) [] [] f fd) {cB : Addr} (T : Bt mg) (TBag : Ct K mg "Bag" cB ["_letters", "_coming"]) : FnOk P w K mg base CX0 1 f fd ["self"] (spLbLetters cB K) := by
  refine ok_meth F c_Bag_letters (fun vs H Q E h => ?_) (fun cdv A outer s H vs Q E hr h => ?_)
  · obtain ⟨d, a, c, n, rfl, _⟩ := h
    rfl
  · obtain ⟨d, a, c, n, rfl, ⟨dx, l, ha, hd, hl⟩, k⟩ := h
    have nd := c_Bag_letters.nd
    refine ⟨_, (pss_one (ps_ret (pe_callTy (call_listVals rfl) (by rfl) T.list (by decide +kernel) (pa_cons (pe_bm0 PySem.F.plainAttrs_dict PySem.F.slot_dict_values PySem.F.type_dict_values mt_valsK (pe_at TBag (by decide +kernel) (pv 0))) pa_nil)))), ?_⟩
    show (_ : TS) _ [some _] _
    try dsimp only [cxOf, Cx.nox]
    walk_at "run"
    refine ⟨.inr (.inr (.inl ⟨rfl, .inl ⟨_, hd⟩⟩)), d, _, rfl, rfl, hd, fun p hp => ?_⟩
    refine ⟨p, d, _, rfl, upd_same, by rw [upd_ne (ne_of_none hd hp)]; exact hd, fun q hq => ?_⟩
    have hq0 : H q = none := by
      by_cases e : q = p
      · rw [e]; exact hp
      · rw [upd_ne e] at hq; exact hq
    have e1 : Ext [] H (upd (upd H p (valsO p d)) q (.lst (l.map (·.2)))) := (Ext.refl.new hp).new hq
    exact k q _ _ hq0 e1 upd_same ((hl.imp fun _ _ z => z.f e1 (fun _ z => nomatch z) (fun _ z => nomatch z)).vals)
end
end Yk

set_option maxHeartbeats 4000000
namespace Yk
open PySem PySem.Spec PyProof.Rows L2 L2H

local macro_rules | `(tactic| walk_at "st") => `(tactic| first
  | with_reducible refine' r_tAt ?_
  | ((with_reducible refine' r_fld ?h1 ?h2 ?h3); (case h1 => first | assumption | exact upd_same); (case h2 => first | walk_at "lk" | rfl))
  | with_reducible refine' r_sAt ?_
  | ((with_reducible refine' r_putU ?h1 ?h2); (case h1 => (repeat refine putF_lt ?_); decide))
  | ((with_reducible refine' r_put ?h1 ?h2 ?h3); (case h1 => first | assumption | exact upd_same); (case h2 => (repeat refine putF_lt ?_); decide))
  | with_reducible refine' r_tMt ?_
  | ((with_reducible refine' r_met ?h1 ?h2 ?h3); (case h1 => first | assumption | exact upd_same); (case h2 => first | walk_at "lk" | rfl))
  | with_reducible refine' r_tCr ?_
  | with_reducible refine' r_tCrK ?_
  | with_reducible refine' r_chain ?_)
local macro_rules | `(tactic| walk_at "st") => `(tactic| first
  | with_reducible refine' r_dget ?_
  | with_reducible refine' r_dc ?_
  | with_reducible refine' r_iVals ?_
  | with_reducible refine' r_dnotin ?_
  | with_reducible refine' r_din ?_
  | with_reducible refine' r_iItems ?_
  | with_reducible refine' r_iKeysT ?_
  | with_reducible refine' r_tget1 ?_
  | with_reducible refine' r_tget2 ?_
  | with_reducible refine' r_dput ?_
  | with_reducible refine' r_tPr ?_
  | ((with_reducible refine' r_prp2 ?h1 ?h2); (case h1 => first | assumption | exact upd_same))
  | with_reducible refine' r_par3 ?_
  | ((with_reducible refine' r_dnT ?_); (intro np hnp))
  | ((with_reducible refine' r_dnK ?_); (intro np hnp)))
/-! A bag: letters found, or not. -/
theorem r_ostT {nx : L2.St → Hp → Prop} {rt : VK} {bk ct : L2.St → Hp → Prop} {σ : L2.St} {H : Hp} {K : PySem.W.Frag} {nw : String} {bm : List Value} {f : Str} {to te : TE} (h : te σ H fun y H1 => to σ H1 fun x H2 => ∃ a C : Addr, x = .ref a ∧ OexT K C nw bm ∧ PySem.W.findIn K (.ref C) f = some none ∧
  H2 a = some (exo a C none) ∧ ∀ dx, H2 dx = none → dx ≠ a → nx σ (upd (upd H2 dx (exd dx [(f, y)])) a (exo a C (some dx)))) : tOstT K nw bm f to te ⟨nx, rt, bk, ct⟩ σ H := h
theorem r_ddel {D : Ends} {td ty : TE} {σ : L2.St} {H : Hp} (h : td σ H fun x H1 => ty σ H1 fun y H2 => ∃ a kvs k, x = .ref a ∧ H2 a = some (.dK kvs) ∧ y = kV k ∧ (valV kvs k).isSome = true ∧ D.nx σ (upd H2 a (.dK (dropK kvs k)))) : sDDel td ty D σ H := h
local macro_rules | `(tactic| walk_at "st") => `(tactic| first
  | with_reducible refine' r_ddel ?_
  | with_reducible refine' r_ostT ?_
  | with_reducible refine' r_tMtX ?_
  | with_reducible refine' r_raise1 ?_)
local macro_rules | `(tactic| walk_at "lk") => `(tactic| first | with_reducible exact lk_Lb_letters | with_reducible exact lk_Lb_coming | exact lk_Lb_no (by decide +kernel) (by decide +kernel))
/-- the number names a letter -/
def hasD (c : List (Int × PyData)) : PyData → Bool
  | .int i => (gv c i).isSome
  | _ => false
section
variable {P : Program} {w : World} {K : PySem.W.Frag} {mg : Str → Option Value} {base : Heap} {f : Addr} {fd : FuncData}
abbrev s_NoSuchLetter___init__ : Stmt := inClass (top 4) 0
theorem c_NoSuchLetter___init__ : FnScope ["self", "number"] ["self", "number"] (defScope s_NoSuchLetter___init__) := ⟨rfl, rfl, rfl, by decide +kernel, rfl, by decide +kernel, by decide +kernel⟩
theorem f_NoSuchLetter___init__ (F : FunD K "__init__" "NoSuchLetter.__init__" (defArgs s_NoSuchLetter___init__) (defBody s_NoSuchLetter___init__) (defScope s_NoSuchLetter___init__) [] [] f fd) {cN : Addr} (YNoSuchLetter : XcT K mg "NoSuchLetter" cN "LookupError.__new__" leTail) (NNoSuchLetter_number : PySem.W.findIn K (.ref cN) "number" = some none) : FnOk P w K mg base CX0 1 f fd ["self", "number"] (spInit1 cN "number") := by
  refine ok_meth F c_NoSuchLetter___init__ (fun vs H Q E h => ?_) (fun cdv A outer s H vs Q E hr h => ?_)
  · obtain ⟨a, v, rfl, _⟩ := h
    rfl
  · obtain ⟨a, v, rfl, ha, k⟩ := h
    have nd := c_NoSuchLetter___init__.nd
    refine ⟨_, (pss_one (ps_ostT ebL (pv 0) (pv 1))), ?_⟩
    show (_ : TS) _ [some _, some _] _
    try dsimp only [cxOf, Cx.nox]
    walk_at "run"
    exact ⟨a, cN, rfl, YNoSuchLetter.oe, NNoSuchLetter_number, ha, fun d hd hda => k d hd hda⟩
def spLbLetter (cB : Addr) (K : PySem.W.Frag) : Sp := fun vs H Q _ => ∃ (d a : Addr) (c : List (Int × PyData)) (n : Nat) (i : Int) (x : PyData), vs = [.ref a, .int i] ∧ LbAt cB K H d a c n ∧ gv c i = some x ∧ ∀ v, Lt K H v x → Q v H
abbrev s_Bag__letter : Stmt := inClass (top 6) 7
theorem c_Bag__letter : FnScope ["self", "number"] ["self", "number"] (defScope s_Bag__letter) := ⟨rfl, rfl, rfl, by decide +kernel, rfl, by decide +kernel, by decide +kernel⟩
theorem f_Bag__letter (F : FunD K "_letter" "Bag._letter" (defArgs s_Bag__letter) (defBody s_Bag__letter) (defScope s_Bag__letter) [] [] f fd) {cB : Addr} (TBag : Ct K mg "Bag" cB ["_letters", "_coming"]) (SBag_contains : SmF P w K mg base 2 cB "__contains__" (spLbHas cB K)) : FnOk P w K mg base CX0 3 f fd ["self", "number"] (spLbLetter cB K) := by
  refine ok_meth F c_Bag__letter (fun vs H Q E h => ?_) (fun cdv A outer s H vs Q E hr h => ?_)
  · obtain ⟨d, a, c, n, i, x, rfl, _⟩ := h
    rfl
  · obtain ⟨d, a, c, n, i, x, rfl, hB, hx, k⟩ := h
    have nd := c_Bag__letter.nd
    refine ⟨_, (pss_cons (ps_if (pt_cmpR (op_notInO SBag_contains (hr.mono (by decide))) (pv 1) (pv 0) (by rfl))
        (pss_one ps_never)
        pss_nil)
      (pss_one (ps_ret (pe_dget (hu_of hr) (pe_at TBag (by decide +kernel) (pv 0)) (pv 1) (fun _ _ => rfl))))), ?_⟩
    show (_ : TS) _ [some _, some _] _
    try dsimp only [cxOf, Cx.nox]
    obtain ⟨dx, l, ha, hd, hl⟩ := id hB
    walk_at "go"
    refine ⟨a, dx, _, rfl, ha, d, a, c, n, _, _, rfl, hB, .int i, true, by show V.bl (gv c i).isSome = _; rw [hx]; rfl, ?_⟩
    walk_at "run"
    rcases hl.val i with ⟨_, e2⟩ | ⟨v, y, e1, e2, r⟩
    · rw [hx] at e2
      cases e2
    · rw [hx] at e2
      cases e2
      exact ⟨d, v, rfl, by rw [← e1]; exact DGet.k (k := .inl i) hd, k v r⟩
def spLbLetterX (cB cN : Addr) (K : PySem.W.Frag) : Sp := fun vs H _ E => ∃ (d a : Addr) (c : List (Int × PyData)) (n : Nat) (v : V) (x : PyData), vs = [.ref a, v] ∧ LbAt cB K H d a c n ∧ Dp K H v x ∧ hasD c x = false ∧ ∀ d, H d = none → E (.ref cN) (some d) (upd H d (.xd [("number", v)]))
theorem x_Bag__letter (F : FunD K "_letter" "Bag._letter" (defArgs s_Bag__letter) (defBody s_Bag__letter) (defScope s_Bag__letter) [] [] f fd) {cB cN : Addr} (TBag : Ct K mg "Bag" cB ["_letters", "_coming"]) (SBag_contains : SmF P w K mg base 2 cB "__contains__" (spLbHas cB K)) (XNoSuchLetter : XiT P w K mg base 1 "NoSuchLetter" cN "LookupError.__new__" leTail (spInit1 cN "number")) : FnOk P w K mg base (L2N.CX P w) 3 f fd ["self", "number"] (spLbLetterX cB cN K) := by
  refine ok_methX F c_Bag__letter (fun vs H Q E h => ?_) (fun cdv A outer s H vs Q E hr h => ?_)
  · obtain ⟨d, a, c, n, v, x, rfl, _⟩ := h
    rfl
  · obtain ⟨d, a, c, n, v, x, rfl, hB, hv, hx, k⟩ := h
    have nd := c_Bag__letter.nd
    refine ⟨_, (pss_cons (ps_if (pt_cmpR (op_notInO SBag_contains (hr.mono (by decide))) (pv 1) (pv 0) (by rfl))
        (pss_one (ps_raise1T ebL XNoSuchLetter (hr.mono (by decide)) rfl (L2N.takes_of rfl rfl rfl rfl) (pa_cons (pv 1) pa_nil)))
        pss_nil)
      (pss_one (ps_ret (pe_dget (hu_of hr) (pe_at TBag (by decide +kernel) (pv 0)) (pv 1) (fun _ _ => rfl))))), ?_⟩
    show (_ : TS) _ [some _, some _] _
    try dsimp only [cxOf, Cx.nox]
    obtain ⟨dx, l, ha, hd, hl⟩ := id hB
    walk_at "go"
    refine ⟨a, dx, _, rfl, ha, d, a, c, n, v, x, rfl, hB, hv, false, by rw [← hx]; cases x <;> rfl, ?_⟩
    walk_at "go"
    exact ⟨v, rfl, v, rfl, k⟩
def spLbTake (cB : Addr) (K : PySem.W.Frag) : Sp := fun vs H Q _ => ∃ (d a : Addr) (c : List (Int × PyData)) (n : Nat) (i : Int) (x : PyData), vs = [.ref a, .int i] ∧ LbAt cB K H d a c n ∧ gv c i = some x ∧ ∀ v H', Ext [d] H H' → LbAt cB K H' d a (gd c i) n → Lt K H' v x → Q v H'
abbrev s_Bag_take : Stmt := inClass (top 6) 2
theorem c_Bag_take : FnScope ["self", "number", "letter"] ["self", "number"] (defScope s_Bag_take) := ⟨rfl, rfl, rfl, by decide +kernel, rfl, by decide +kernel, by decide +kernel⟩
theorem f_Bag_take (F : FunD K "take" "Bag.take" (defArgs s_Bag_take) (defBody s_Bag_take) (defScope s_Bag_take) [] [] f fd) {cB : Addr} (TBag : Ct K mg "Bag" cB ["_letters", "_coming"]) (MBag__letter : Mt P w K mg base 3 cB "_letter" (spLbLetter cB K)) : FnOk P w K mg base CX0 4 f fd ["self", "number"] (spLbTake cB K) := by
  refine ok_meth F c_Bag_take (fun vs H Q E h => ?_) (fun cdv A outer s H vs Q E hr h => ?_)
  · obtain ⟨d, a, c, n, i, x, rfl, _⟩ := h
    rfl
  · obtain ⟨d, a, c, n, i, x, rfl, hB, hx, k⟩ := h
    have nd := c_Bag_take.nd
    refine ⟨_, (pss_cons (ps_set (i := 2) nd rfl (by first | exact Or.inl rfl | exact Or.inr rfl) (pe_mt MBag__letter (hr.mono (by decide)) (pv 0) (pa_cons (pv 1) pa_nil)))
      (pss_cons (ps_ddel (pe_at TBag (by decide +kernel) (pv 0)) (pv 1))
      (pss_one (ps_ret (pv 2))))), ?_⟩
    show (_ : TS) _ [some _, some _, none] _
    try dsimp only [cxOf, Cx.nox]
    obtain ⟨dx, l, ha, hd, hl⟩ := id hB
    have hda : d ≠ a := fun z => by rw [z, ha] at hd; cases hd
    walk_at "go"
    refine ⟨d, a, c, n, i, x, rfl, hB, hx, fun v hv => ?_⟩
    walk_at "run"
    have hv1 : (valV l (.inl i)).isSome = true := by
      rcases hl.val i with ⟨_, e2⟩ | ⟨v, y, e1, e2, r⟩
      · rw [hx] at e2
        cases e2
      · rw [e1]
        rfl
    refine ⟨d, l, .inl i, rfl, hd, rfl, hv1, ?_⟩
    walk_at "run"
    have e1 : Ext [d] H (upd H d (.dK (dropK l (.inl i)))) := Ext.refl.at_ List.mem_cons_self
    have tr : ∀ {v : V} {x : PyData}, Lt K H v x → Lt K (upd H d (.dK (dropK l (.inl i)))) v x := fun z => z.f e1 (no_dk hd).1 (no_dk hd).2
    exact k v _ e1 ⟨dx, _, by rw [upd_ne hda.symm]; exact ha, upd_same, (hl.drop i).imp fun _ _ z => tr z⟩ (tr hv)
def spLbTakeX (cB cN : Addr) (K : PySem.W.Frag) : Sp := fun vs H _ E => ∃ (d a : Addr) (c : List (Int × PyData)) (n : Nat) (v : V) (x : PyData), vs = [.ref a, v] ∧ LbAt cB K H d a c n ∧ Dp K H v x ∧ hasD c x = false ∧ ∀ d, H d = none → E (.ref cN) (some d) (upd H d (.xd [("number", v)]))
theorem x_Bag_take (F : FunD K "take" "Bag.take" (defArgs s_Bag_take) (defBody s_Bag_take) (defScope s_Bag_take) [] [] f fd) {cB cN : Addr} (TBag : Ct K mg "Bag" cB ["_letters", "_coming"]) (XBag__letter : MtX P w K mg base 3 cB "_letter" (spLbLetterX cB cN K)) : FnOk P w K mg base (L2N.CX P w) 4 f fd ["self", "number"] (spLbTakeX cB cN K) := by
  refine ok_methX F c_Bag_take (fun vs H Q E h => ?_) (fun cdv A outer s H vs Q E hr h => ?_)
  · obtain ⟨d, a, c, n, v, x, rfl, _⟩ := h
    rfl
  · obtain ⟨d, a, c, n, v, x, rfl, hB, hv, hx, k⟩ := h
    have nd := c_Bag_take.nd
    refine ⟨_, (pss_cons (ps_set (i := 2) nd rfl (by first | exact Or.inl rfl | exact Or.inr rfl) (pe_mtX XBag__letter (hr.mono (by decide)) (L2N.takes_of rfl rfl rfl rfl) (pv 0) (pa_cons (pv 1) pa_nil)))
      (pss_cons (ps_ddel (pe_at TBag (by decide +kernel) (pv 0)) (pv 1))
      (pss_one (ps_ret (pv 2))))), ?_⟩
    show (_ : TS) _ [some _, some _, none] _
    try dsimp only [cxOf, Cx.nox]
    obtain ⟨dx, l, ha, hd, hl⟩ := id hB
    walk_at "go"
    exact ⟨d, a, c, n, v, x, rfl, hB, hv, hx, k⟩
end
end Yk

set_option maxHeartbeats 4000000
namespace Yk
open PySem PySem.Spec PyProof.Rows L2 L2H

local macro_rules | `(tactic| walk_at "st") => `(tactic| first
  | with_reducible refine' r_tAt ?_
  | ((with_reducible refine' r_fld ?h1 ?h2 ?h3); (case h1 => first | assumption | exact upd_same); (case h2 => first | walk_at "lk" | rfl))
  | with_reducible refine' r_sAt ?_
  | ((with_reducible refine' r_putU ?h1 ?h2); (case h1 => (repeat refine putF_lt ?_); decide))
  | ((with_reducible refine' r_put ?h1 ?h2 ?h3); (case h1 => first | assumption | exact upd_same); (case h2 => (repeat refine putF_lt ?_); decide))
  | with_reducible refine' r_tMt ?_
  | ((with_reducible refine' r_met ?h1 ?h2 ?h3); (case h1 => first | assumption | exact upd_same); (case h2 => first | walk_at "lk" | rfl))
  | with_reducible refine' r_tCr ?_
  | with_reducible refine' r_tCrK ?_
  | with_reducible refine' r_chain ?_)
local macro_rules | `(tactic| walk_at "st") => `(tactic| first
  | with_reducible refine' r_dget ?_
  | with_reducible refine' r_dc ?_
  | with_reducible refine' r_iVals ?_
  | with_reducible refine' r_dnotin ?_
  | with_reducible refine' r_din ?_
  | with_reducible refine' r_iItems ?_
  | with_reducible refine' r_iKeysT ?_
  | with_reducible refine' r_tget1 ?_
  | with_reducible refine' r_tget2 ?_
  | with_reducible refine' r_dput ?_
  | with_reducible refine' r_tPr ?_
  | ((with_reducible refine' r_prp2 ?h1 ?h2); (case h1 => first | assumption | exact upd_same))
  | with_reducible refine' r_par3 ?_
  | ((with_reducible refine' r_dnT ?_); (intro np hnp))
  | ((with_reducible refine' r_dnK ?_); (intro np hnp)))
/-! A bag: copies of letters, ==. -/
local macro_rules | `(tactic| walk_at "st") => `(tactic| first | with_reducible refine' r_tMtX ?_)
theorem hu65 {k : Nat} {A : Around} (r : Room k A) : A.units + 65 < cLine := by have := r.un; omega
local macro_rules | `(tactic| walk_at "lk") => `(tactic| first | with_reducible exact lk_Lb_letters | with_reducible exact lk_Lb_coming | exact lk_Lb_no (by decide +kernel) (by decide +kernel))
section
variable {P : Program} {w : World} {K : PySem.W.Frag} {mg : Str → Option Value} {base : Heap} {f : Addr} {fd : FuncData}
def spLbDouble (cB : Addr) (K : PySem.W.Frag) : Sp := fun vs H Q _ => ∃ (d a : Addr) (c : List (Int × PyData)) (n : Nat) (i : Int) (x0 x1 x2 x3 : PyData), vs = [.ref a, .int i] ∧ LbAt cB K H d a c n ∧ c.length ≤ 1000 ∧ n ≤ 1000 ∧ gv c i = some (.tuple [x0, x1, x2, x3]) ∧ SeqAt.shaped (.tuple [.int n, x1, x2, x3]) = true ∧
  ∀ H', Ext [a, d] H H' → LbAt cB K H' d a (gp c n (.tuple [.int n, x1, x2, x3])) (n + 1) → Q (.int (n : Int)) H'
abbrev s_Bag_double : Stmt := inClass (top 6) 3
theorem c_Bag_double : FnScope ["self", "number", "_", "channel", "tick", "value"] ["self", "number"] (defScope s_Bag_double) := ⟨rfl, rfl, rfl, by decide +kernel, rfl, by decide +kernel, by decide +kernel⟩
theorem f_Bag_double (F : FunD K "double" "Bag.double" (defArgs s_Bag_double) (defBody s_Bag_double) (defScope s_Bag_double) [] [] f fd) {cB : Addr} (TBag : Ct K mg "Bag" cB ["_letters", "_coming"]) (MBag__letter : Mt P w K mg base 3 cB "_letter" (spLbLetter cB K)) (MBag_put : Mt P w K mg base 1 cB "put" (spLbPut cB K)) : FnOk P w K mg base CX0 4 f fd ["self", "number"] (spLbDouble cB K) := by
  refine ok_meth F c_Bag_double (fun vs H Q E h => ?_) (fun cdv A outer s H vs Q E hr h => ?_)
  · obtain ⟨d, a, c, n, i, x0, x1, x2, x3, rfl, _⟩ := h
    rfl
  · obtain ⟨d, a, c, n, i, x0, x1, x2, x3, rfl, hB, c1000, n1000, hx, hs, k⟩ := h
    have nd := c_Bag_double.nd
    refine ⟨_, (pss_cons (ps_asg (pe_mt MBag__letter (hr.mono (by decide)) (pv 0) (pa_cons (pv 1) pa_nil)) (pg_tup rfl (pgs_cons (pg_name (i := 2) nd rfl (by first | exact Or.inl rfl | exact Or.inr rfl)) (pgs_cons (pg_name (i := 3) nd rfl (by first | exact Or.inl rfl | exact Or.inr rfl)) (pgs_cons (pg_name (i := 4) nd rfl (by first | exact Or.inl rfl | exact Or.inr rfl)) (pgs_cons (pg_name (i := 5) nd rfl (by first | exact Or.inl rfl | exact Or.inr rfl)) pgs_nil))))))
      (pss_one (ps_ret (pe_mt MBag_put (hr.mono (by decide)) (pv 0) (pa_cons (pv 3) (pa_cons (pv 4) (pa_cons (pv 5) pa_nil))))))), ?_⟩
    show (_ : TS) _ [some _, some _, none, none, none, none] _
    try dsimp only [cxOf, Cx.nox]
    obtain ⟨dx, l, ha, hd, hl⟩ := id hB
    walk_at "go"
    refine ⟨d, a, c, n, i, _, rfl, hB, hx, fun v hv => ?_⟩
    obtain ⟨hv, _⟩ := hv
    cases hv with
    | tup ht g =>
      cases g with
      | cons g0 g =>
        cases g with
        | cons g1 g =>
          cases g with
          | cons g2 g =>
            cases g with
            | cons g3 g =>
              cases g
              walk_at "run"
              exact ⟨d, a, c, n, _, _, _, x1, x2, x3, rfl, hB, c1000, n1000, g1, g2, g3, hs, k⟩
theorem x_Bag_double (F : FunD K "double" "Bag.double" (defArgs s_Bag_double) (defBody s_Bag_double) (defScope s_Bag_double) [] [] f fd) {cB cN : Addr} (TBag : Ct K mg "Bag" cB ["_letters", "_coming"]) (XBag__letter : MtX P w K mg base 3 cB "_letter" (spLbLetterX cB cN K)) (MBag_put : Mt P w K mg base 1 cB "put" (spLbPut cB K)) : FnOk P w K mg base (L2N.CX P w) 4 f fd ["self", "number"] (spLbTakeX cB cN K) := by
  refine ok_methX F c_Bag_double (fun vs H Q E h => ?_) (fun cdv A outer s H vs Q E hr h => ?_)
  · obtain ⟨d, a, c, n, v, x, rfl, _⟩ := h
    rfl
  · obtain ⟨d, a, c, n, v, x, rfl, hB, hv, hx, k⟩ := h
    have nd := c_Bag_double.nd
    refine ⟨_, (pss_cons (ps_asg (pe_mtX XBag__letter (hr.mono (by decide)) (L2N.takes_of rfl rfl rfl rfl) (pv 0) (pa_cons (pv 1) pa_nil)) (pg_tup rfl (pgs_cons (pg_name (i := 2) nd rfl (by first | exact Or.inl rfl | exact Or.inr rfl)) (pgs_cons (pg_name (i := 3) nd rfl (by first | exact Or.inl rfl | exact Or.inr rfl)) (pgs_cons (pg_name (i := 4) nd rfl (by first | exact Or.inl rfl | exact Or.inr rfl)) (pgs_cons (pg_name (i := 5) nd rfl (by first | exact Or.inl rfl | exact Or.inr rfl)) pgs_nil))))))
      (pss_one (ps_ret (pe_mt MBag_put (hr.mono (by decide)) (pv 0) (pa_cons (pv 3) (pa_cons (pv 4) (pa_cons (pv 5) pa_nil))))))), ?_⟩
    show (_ : TS) _ [some _, some _, none, none, none, none] _
    try dsimp only [cxOf, Cx.nox]
    obtain ⟨dx, l, ha, hd, hl⟩ := id hB
    walk_at "go"
    exact ⟨d, a, c, n, v, x, rfl, hB, hv, hx, k⟩
def spLbEq (cB : Addr) (K : PySem.W.Frag) : Sp := fun vs H Q _ => ∃ (d a d2 a2 : Addr) (c c2 : List (Int × PyData)) (n n2 : Nat), vs = [.ref a, .ref a2] ∧ LbAt cB K H d a c n ∧ LbAt cB K H d2 a2 c2 n2 ∧ Q (.bl (eqvK (c.map fun p => ((.inl p.1 : Key), p.2)) (c2.map fun p => ((.inl p.1 : Key), p.2)) && decide (n = n2))) H
abbrev s_Bag___eq__ : Stmt := inClass (top 6) 9
theorem c_Bag___eq__ : FnScope ["self", "other"] ["self", "other"] (defScope s_Bag___eq__) := ⟨rfl, rfl, rfl, by decide +kernel, rfl, by decide +kernel, by decide +kernel⟩
theorem f_Bag___eq__ (F : FunD K "__eq__" "Bag.__eq__" (defArgs s_Bag___eq__) (defBody s_Bag___eq__) (defScope s_Bag___eq__) [] [] f fd) {cB : Addr} (T : Bt mg) (TBag : Ct K mg "Bag" cB ["_letters", "_coming"]) (YBag : Ty1 K cB) (kBag : PySem.W.kitOne K (.ref cB) (.ref cB) = some true) : FnOk P w K mg base CX0 1 f fd ["self", "other"] (spLbEq cB K) := by
  refine ok_meth F c_Bag___eq__ (fun vs H Q E h => ?_) (fun cdv A outer s H vs Q E hr h => ?_)
  · obtain ⟨d, a, d2, a2, c, c2, n, n2, rfl, _⟩ := h
    rfl
  · obtain ⟨d, a, d2, a2, c, c2, n, n2, rfl, ⟨dx, l, ha, hd, hl⟩, ⟨dx2, l2, ha2, hd2, hl2⟩, k⟩ := h
    have nd := c_Bag___eq__.nd
    refine ⟨_, (pss_one (ps_ret (pe_and (pe_callB call_isi (by rfl) T.isinstance (by decide +kernel) (pa_cons (pv 1) (pa_cons (pe_glob (v := .ref cB) (by rfl) TBag.hm rfl) pa_nil))) (pe_and (pe_cmpR (op_eqDK (hu65 hr)) (pe_at TBag (by decide +kernel) (pv 0)) (pe_at TBag (by decide +kernel) (pv 1)) (nomark _)) (pe_one (pe_cmpR op_eq (pe_at TBag (by decide +kernel) (pv 0)) (pe_at TBag (by decide +kernel) (pv 1)) (nomark _))))))), ?_⟩
    show (_ : TS) _ [some _, some _] _
    try dsimp only [cxOf, Cx.nox]
    walk_at "go"
    refine r_isiO YBag ha2 kBag ?_
    walk_at "run"
    refine ⟨d, d2, l, l2, _, _, rfl, rfl, hd, hd2, hl.dks, hl2.dks, ?_⟩
    walk_at "run"
    by_cases e : eqvK (c.map fun p => ((.inl p.1 : Key), p.2)) (c2.map fun p => ((.inl p.1 : Key), p.2)) = true
    · rw [if_pos e]
      rw [e, Bool.true_and] at k
      walk_at "run"
      have e2 : decide (V.int (n : Int) = V.int (n2 : Int)) = decide (n = n2) := decide_eq_decide.mpr ⟨fun z => Int.ofNat.inj (V.int.inj z), fun z => by rw [z]⟩
      rw [e2]
      exact k
    · rw [if_neg e]
      rw [Bool.eq_false_iff.mpr e, Bool.false_and] at k
      exact k
def spLbNe (cB : Addr) (K : PySem.W.Frag) : Sp := fun vs H Q _ => ∃ (a p dx : Addr) (fs : List (Str × V)) (ls : List V), vs = [.ref a, .ref p] ∧ H a = some (.ins cB dx fs) ∧ SqL K H p ls ∧ Q (.bl false) H
theorem x_Bag___eq__ (F : FunD K "__eq__" "Bag.__eq__" (defArgs s_Bag___eq__) (defBody s_Bag___eq__) (defScope s_Bag___eq__) [] [] f fd) {cB : Addr} (T : Bt mg) (TBag : Ct K mg "Bag" cB ["_letters", "_coming"]) (nBag : PySem.W.kitOne K (.type "list") (.ref cB) = some false) : FnOk P w K mg base CX0 1 f fd ["self", "other"] (spLbNe cB K) := by
  refine ok_meth F c_Bag___eq__ (fun vs H Q E h => ?_) (fun cdv A outer s H vs Q E hr h => ?_)
  · obtain ⟨a, p, dx, fs, ls, rfl, _⟩ := h
    rfl
  · obtain ⟨a, p, dx, fs, ls, rfl, ha, hp, k⟩ := h
    have nd := c_Bag___eq__.nd
    refine ⟨_, (pss_one (ps_ret (pe_and (pe_callB call_isi (by rfl) T.isinstance (by decide +kernel) (pa_cons (pv 1) (pa_cons (pe_glob (v := .ref cB) (by rfl) TBag.hm rfl) pa_nil))) (pe_and (pe_cmpR (op_eqDK (hu65 hr)) (pe_at TBag (by decide +kernel) (pv 0)) (pe_at TBag (by decide +kernel) (pv 1)) (nomark _)) (pe_one (pe_cmpR op_eq (pe_at TBag (by decide +kernel) (pv 0)) (pe_at TBag (by decide +kernel) (pv 1)) (nomark _))))))), ?_⟩
    show (_ : TS) _ [some _, some _] _
    try dsimp only [cxOf, Cx.nox]
    walk_at "go"
    refine ⟨.ref p, .ref cB, .type "list", .ref cB, false, rfl, .own cB, by walk_at "ty", nBag, ?_⟩
    walk_at "run"
    exact k
end
end Yk

set_option maxHeartbeats 4000000
namespace Yk
open PySem PySem.Spec PyProof.Rows L2 L2H

local macro_rules | `(tactic| walk_at "st") => `(tactic| first
  | with_reducible refine' r_tAt ?_
  | ((with_reducible refine' r_fld ?h1 ?h2 ?h3); (case h1 => first | assumption | exact upd_same); (case h2 => first | walk_at "lk" | rfl))
  | with_reducible refine' r_sAt ?_
  | ((with_reducible refine' r_putU ?h1 ?h2); (case h1 => (repeat refine putF_lt ?_); decide))
  | ((with_reducible refine' r_put ?h1 ?h2 ?h3); (case h1 => first | assumption | exact upd_same); (case h2 => (repeat refine putF_lt ?_); decide))
  | with_reducible refine' r_tMt ?_
  | ((with_reducible refine' r_met ?h1 ?h2 ?h3); (case h1 => first | assumption | exact upd_same); (case h2 => first | walk_at "lk" | rfl))
  | with_reducible refine' r_tCr ?_
  | with_reducible refine' r_tCrK ?_
  | with_reducible refine' r_chain ?_)
local macro_rules | `(tactic| walk_at "st") => `(tactic| first
  | with_reducible refine' r_dget ?_
  | with_reducible refine' r_dc ?_
  | with_reducible refine' r_iVals ?_
  | with_reducible refine' r_dnotin ?_
  | with_reducible refine' r_din ?_
  | with_reducible refine' r_iItems ?_
  | with_reducible refine' r_iKeysT ?_
  | with_reducible refine' r_tget1 ?_
  | with_reducible refine' r_tget2 ?_
  | with_reducible refine' r_dput ?_
  | with_reducible refine' r_tPr ?_
  | ((with_reducible refine' r_prp2 ?h1 ?h2); (case h1 => first | assumption | exact upd_same))
  | with_reducible refine' r_par3 ?_
  | ((with_reducible refine' r_dnT ?_); (intro np hnp))
  | ((with_reducible refine' r_dnK ?_); (intro np hnp)))
/-! A bag: the older letters. -/
local macro_rules | `(tactic| walk_at "lk") => `(tactic| first | with_reducible exact lk_Lb_letters | with_reducible exact lk_Lb_coming | exact lk_Lb_no (by decide +kernel) (by decide +kernel))
/-- a letter's tick -/
def tickD : PyData → Option Int
  | .tuple [_, _, .int t, _] => some t
  | _ => none
def oldB (tick : Int) (p : Int × PyData) : Bool := match tickD p.2 with
  | some t => decide (t ≤ tick)
  | none => false
theorem tickD_of {x : PyData} {t : Int} (h : tickD x = some t) : ∃ x0 x1 x3, x = .tuple [x0, x1, .int t, x3] := by
  unfold tickD at h
  split at h
  · cases h
    exact ⟨_, _, _, rfl⟩
  · cases h
section
variable {P : Program} {w : World} {K : PySem.W.Frag} {mg : Str → Option Value} {base : Heap} {f : Addr} {fd : FuncData}
def spLbOlder (cB : Addr) (K : PySem.W.Frag) : Sp := fun vs H Q _ => ∃ (d a : Addr) (c : List (Int × PyData)) (n : Nat) (tick : Int), vs = [.ref a, .int tick] ∧ LbAt cB K H d a c n ∧ (∀ p ∈ c, ∃ t, tickD p.2 = some t) ∧ c.length ≤ 1000 ∧
  ∀ p ls H', H p = none → Ext [] H H' → H' p = some (.lst ls) → LtAll K H' ls (c.filter (oldB tick)) → Q (.ref p) H'
abbrev s_Bag_older : Stmt := inClass (top 6) 5
theorem c_Bag_older : FnScope ["self", "tick", "letter"] ["self", "tick"] (defScope s_Bag_older) := ⟨rfl, rfl, rfl, by decide +kernel, rfl, by decide +kernel, by decide +kernel⟩
theorem f_Bag_older (F : FunD K "older" "Bag.older" (defArgs s_Bag_older) (defBody s_Bag_older) (defScope s_Bag_older) [] [] f fd) {cB : Addr} (TBag : Ct K mg "Bag" cB ["_letters", "_coming"]) (MBag_letters : Mt P w K mg base 1 cB "letters" (spLbLetters cB K)) : FnOk P w K mg base CX0 2 f fd ["self", "tick"] (spLbOlder cB K) := by
  refine ok_meth F c_Bag_older (fun vs H Q E h => ?_) (fun cdv A outer s H vs Q E hr h => ?_)
  · obtain ⟨d, a, c, n, tick, rfl, _⟩ := h
    rfl
  · obtain ⟨d, a, c, n, tick, rfl, hB, ht, c1000, k⟩ := h
    have nd := c_Bag_older.nd
    refine ⟨_, (pss_one (ps_ret (pe_lc (own := [("letter", 2)]) (g := gName 2) rfl nd (pi_list (pe_mt0 MBag_letters (hr.mono (by decide)) (pv 0))) (blkOk_by (N := ["self", "tick", "letter"]) (sc := defScope s_Bag_older) (by decide +kernel)) (fun _ _ _ _ _ => pg_name (i := 2) nd rfl (Or.inl rfl)) (fun _ _ _ _ _ => (pts_one (pt_cmpR op_le (pe_ix ix_tup (pv 2) pe_int (fun _ _ => rfl) : PE _ _ (tOp (rIxT K) _ _)) (pv 1) (nomark _)))) (fun _ _ _ _ _ => (pv 2))))), ?_⟩
    show (_ : TS) _ [some _, some _, none] _
    try dsimp only [cxOf, Cx.nox]
    obtain ⟨dx, l, ha, hd, hl⟩ := id hB
    walk_at "go"
    refine ⟨d, a, c, n, rfl, hB, fun p ls H1 hp e1 h1 hls => ?_⟩
    refine ⟨p, rfl, ⟨ls, .inl (.inl h1)⟩, fun D hD => ?_⟩
    have hlen := hls.1
    refine r_lcL (xs := ls) (fun i H2 => ∃ acc : List V, H2 D = some (.lst acc) ∧ acc.length ≤ i ∧ LtAll K H1 acc ((c.take i).filter (oldB tick)) ∧ Ext [] H1 H2) ⟨[], upd_same, Nat.le_refl _, .nil, Ext.refl.new hD⟩ ?_ ?_ ?_
    · rintro i H2 hi ⟨acc, q1, q2, q3, q4⟩
      exact .inl (.inl (q4 _ _ h1 fun z => nomatch z))
    · rintro i y H2 hy ⟨acc, q1, q2, q3, q4⟩
      have hil := (List.getElem?_eq_some_iff.mp hy).1
      obtain ⟨⟨m, x⟩, hq, hx, hsh⟩ := hls.at_ hy
      obtain ⟨t, htk⟩ := ht _ (List.mem_of_getElem? hq)
      obtain ⟨x0, x1, x3, ex⟩ := tickD_of htk
      dsimp only at ex
      subst ex
      have hx2 := dpx0 q4 hx
      have tg : c.take (i + 1) = c.take i ++ [(m, .tuple [x0, x1, .int t, x3])] := by rw [List.take_succ, hq]; rfl
      cases hx2 with
      | tup hs g =>
        cases g with
        | cons g0 g =>
          cases g with
          | cons g1 g =>
            cases g with
            | cons g2 g =>
              cases g with
              | cons g3 g =>
                cases g
                cases g2
                walk_at "go"
                refine ⟨rfl, ?_⟩
                walk_at "go"
                by_cases hle : t ≤ tick
                · rw [if_pos (decide_eq_true hle)]
                  walk_at "go"
                  refine ⟨acc, q1, Nat.lt_of_le_of_lt (by omega : acc.length ≤ 4000) (by decide), acc ++ [_], upd_same, by rw [List.length_append]; exact Nat.add_le_add_right q2 1, ?_, q4.own hD⟩
                  rw [tg, List.filter_append, show [(m, PyData.tuple [x0, x1, PyData.int t, x3])].filter (oldB tick) = [(m, PyData.tuple [x0, x1, PyData.int t, x3])] by simp [oldB, tickD, hle]]
                  exact q3.app (.cons ⟨hx, hsh⟩ .nil)
                · rw [if_neg (by simpa using hle)]
                  refine ⟨acc, q1, by omega, ?_, q4⟩
                  rw [tg, List.filter_append, show [(m, PyData.tuple [x0, x1, PyData.int t, x3])].filter (oldB tick) = [] by simpa [oldB, tickD] using hle, List.append_nil]
                  exact q3
    · rintro H2 ⟨acc, q1, q2, q3, q4⟩
      rw [hlen, List.take_length] at q3
      have hDn : H D = none := by
        cases e : H D with
        | none => rfl
        | some o => rw [e1 _ _ e fun z => nomatch z] at hD; cases hD
      exact k D acc H2 hDn (e1.trans q4) q1 (q3.imp fun _ _ z => ⟨dpx0 q4 z.1, z.2⟩)
end
end Yk

set_option maxHeartbeats 4000000
namespace Yk
open PySem PySem.Spec PyProof.Rows L2 L2H

local macro_rules | `(tactic| walk_at "st") => `(tactic| first
  | with_reducible refine' r_tAt ?_
  | ((with_reducible refine' r_fld ?h1 ?h2 ?h3); (case h1 => first | assumption | exact upd_same); (case h2 => first | walk_at "lk" | rfl))
  | with_reducible refine' r_sAt ?_
  | ((with_reducible refine' r_putU ?h1 ?h2); (case h1 => (repeat refine putF_lt ?_); decide))
  | ((with_reducible refine' r_put ?h1 ?h2 ?h3); (case h1 => first | assumption | exact upd_same); (case h2 => (repeat refine putF_lt ?_); decide))
  | with_reducible refine' r_tMt ?_
  | ((with_reducible refine' r_met ?h1 ?h2 ?h3); (case h1 => first | assumption | exact upd_same); (case h2 => first | walk_at "lk" | rfl))
  | with_reducible refine' r_tCr ?_
  | with_reducible refine' r_tCrK ?_
  | with_reducible refine' r_chain ?_)
local macro_rules | `(tactic| walk_at "st") => `(tactic| first
  | with_reducible refine' r_dget ?_
  | with_reducible refine' r_dc ?_
  | with_reducible refine' r_iVals ?_
  | with_reducible refine' r_dnotin ?_
  | with_reducible refine' r_din ?_
  | with_reducible refine' r_iItems ?_
  | with_reducible refine' r_iKeysT ?_
  | with_reducible refine' r_tget1 ?_
  | with_reducible refine' r_tget2 ?_
  | with_reducible refine' r_dput ?_
  | with_reducible refine' r_tPr ?_
  | ((with_reducible refine' r_prp2 ?h1 ?h2); (case h1 => first | assumption | exact upd_same))
  | with_reducible refine' r_par3 ?_
  | ((with_reducible refine' r_dnT ?_); (intro np hnp))
  | ((with_reducible refine' r_dnK ?_); (intro np hnp)))
/-! A bag: its copy. -/
local macro_rules | `(tactic| walk_at "lk") => `(tactic| first | with_reducible exact lk_Lb_letters | with_reducible exact lk_Lb_coming | exact lk_Lb_no (by decide +kernel) (by decide +kernel))
theorem put_Lb_letters {d d2 : Addr} {n : Int} : putF "_letters" (V.ref d2) (LbFs d n) = LbFs d2 n := by kernel_rfl
theorem IT.keys {α : Type} {R : V → α → Prop} {l : List (Key × V)} {c : List (Int × α)} (h : IT R l c) : l.map (·.1) = c.map fun p => (.inl p.1 : Key) := by
  induction h with
  | nil => rfl
  | cons a _ ih => simp only [List.map_cons, ih]
theorem IT.nd {α : Type} {R : V → α → Prop} {l : List (Key × V)} {c : List (Int × α)} (h : IT R l c) (nd : (c.map (·.1)).Nodup) : (l.map (·.1)).Nodup := by
  rw [h.keys, show (c.map fun p => (Sum.inl p.1 : Key)) = (c.map (·.1)).map Sum.inl by rw [List.map_map]; rfl]
  exact (List.pairwise_map.mpr (nd.imp fun z e => z (Sum.inl.inj e)))
theorem valV_at {κ : Type} [DecidableEq κ] : ∀ {l : List (κ × V)} {i : Nat} {k : κ} {y : V}, (l.map (·.1)).Nodup → l[i]? = some (k, y) → valV l k = some y
  | [], _, _, _, _, h => by cases h
  | p :: r, 0, k, y, _, h => by
    cases h
    exact valV_pos rfl
  | p :: r, i + 1, k, y, nd, h => by
    have nd' := List.nodup_cons.mp (show (p.1 :: r.map (·.1)).Nodup from nd)
    have h' : r[i]? = some (k, y) := h
    rw [valV_neg (fun e => nd'.1 (by rw [e]; exact List.mem_map_of_mem (f := (·.1)) (List.mem_of_getElem? h')))]
    exact valV_at nd'.2 h'
theorem valV_none {κ : Type} [DecidableEq κ] {l : List (κ × V)} {k : κ} (h : k ∉ l.map (·.1)) : valV l k = none := by
  have e := valV_any k l
  cases h2 : valV l k with
  | none => rfl
  | some y =>
    rw [h2] at e
    obtain ⟨p, hp, hk⟩ := List.any_eq_true.mp e
    exact absurd (List.mem_map_of_mem (f := (·.1)) hp) (by rw [of_decide_eq_true hk]; exact h)
theorem putK_take {κ : Type} [DecidableEq κ] {l : List (κ × V)} {i : Nat} {k : κ} {y : V} (nd : (l.map (·.1)).Nodup) (h : l[i]? = some (k, y)) : putK (l.take i) k y = l.take (i + 1) := by
  obtain ⟨hi, e⟩ := List.getElem?_eq_some_iff.mp h
  rw [putK_new y (valV_none fun z => ?_), List.take_succ, h]
  · rfl
  · rw [List.map_take] at z
    obtain ⟨j, hj, e2⟩ := List.getElem_of_mem z
    rw [List.length_take, List.length_map] at hj
    rw [List.getElem_take, List.getElem_map] at e2
    exact absurd (by rw [List.getElem_map, List.getElem_map, e2, e]) (List.pairwise_iff_getElem.mp nd j i (by rw [List.length_map]; omega) (by rw [List.length_map]; omega) (by omega))
section
variable {P : Program} {w : World} {K : PySem.W.Frag} {mg : Str → Option Value} {base : Heap} {f : Addr} {fd : FuncData}
def spLbCopy (cB : Addr) (K : PySem.W.Frag) : Sp := fun vs H Q _ => ∃ (d a : Addr) (c : List (Int × PyData)) (n : Nat), vs = [.ref a] ∧ LbAt cB K H d a c n ∧ c.length ≤ 1000 ∧ (c.map (·.1)).Nodup ∧ ∀ d' a' H', H a' = none → H d' = none → d' ≠ a' → Ext [] H H' → LbAt cB K H' d' a' c n → Q (.ref a') H'
abbrev s_Bag_copy : Stmt := inClass (top 6) 6
theorem c_Bag_copy : FnScope ["self", "other", "number"] ["self"] (defScope s_Bag_copy) := ⟨rfl, rfl, rfl, by decide +kernel, rfl, by decide +kernel, by decide +kernel⟩
theorem f_Bag_copy (F : FunD K "copy" "Bag.copy" (defArgs s_Bag_copy) (defBody s_Bag_copy) (defScope s_Bag_copy) [] [] f fd) {cB : Addr} (TBag : Ct K mg "Bag" cB ["_letters", "_coming"]) (RBag : Cr P w K mg base 1 "Bag" cB (spLbInit cB)) : FnOk P w K mg base CX0 3 f fd ["self"] (spLbCopy cB K) := by
  refine ok_meth F c_Bag_copy (fun vs H Q E h => ?_) (fun cdv A outer s H vs Q E hr h => ?_)
  · obtain ⟨d, a, c, n, rfl, _⟩ := h
    rfl
  · obtain ⟨d, a, c, n, rfl, ⟨dx, l, ha, hd, hl⟩, c1000, nd0, k⟩ := h
    have nd := c_Bag_copy.nd
    refine ⟨_, (pss_cons (ps_set (i := 1) nd rfl (by first | exact Or.inl rfl | exact Or.inr rfl) (pe_cr0 RBag (hr.mono (by decide))))
      (pss_cons (ps_at TBag (by decide +kernel) (pv 1) (pe_lock (pe_dc (own := [("number", 2)]) rfl nd (pi_keys (pe_at TBag (by decide +kernel) (pv 0))) (blkOk_by (N := ["self", "other", "number"]) (sc := defScope s_Bag_copy) (by decide +kernel)) (fun _ _ _ _ _ => pg_name (i := 2) nd rfl (Or.inl rfl)) (fun _ _ _ _ _ => pts_nil) (fun _ _ _ _ _ => (pv 2)) (fun _ _ _ _ _ => (pe_dget (hu_of hr) (pe_at TBag (by decide +kernel) (pv 0) : PE _ _ (tAt _ _ _)) (pv 2) (fun _ _ => rfl) : PE _ _ (tDGet _ _))))))
      (pss_cons (ps_at TBag (by decide +kernel) (pv 1) (pe_at TBag (by decide +kernel) (pv 0)))
      (pss_one (ps_ret (pv 1)))))), ?_⟩
    show (_ : TS) _ [some _, none, none] _
    try dsimp only [cxOf, Cx.nox]
    walk_at "go"
    intro x dx' hx hdx hne
    refine ⟨x, dx', rfl, upd_same, fun d2 hd2 hne2 => ⟨rfl, ?_⟩⟩
    have hdd : d2 ≠ dx' := fun z => by rw [z, upd_ne hne, upd_same] at hd2; cases hd2
    have hd20 : H d2 = none := by rw [upd_ne hne2, upd_ne hdd] at hd2; exact hd2
    have e1 : Ext [] H (upd (upd (upd (upd H dx' (.own x)) x (.ins cB dx' [])) d2 (.dK [])) x (.ins cB dx' (LbFs d2 0))) := (((Ext.refl.new hdx).own hx).own hd20).own hx
    have hx1 : upd (upd (upd (upd H dx' (.own x)) x (.ins cB dx' [])) d2 (.dK [])) x (.ins cB dx' (LbFs d2 0)) x = some (.ins cB dx' (LbFs d2 0)) := upd_same
    generalize upd (upd (upd (upd H dx' (.own x)) x (.ins cB dx' [])) d2 (.dK [])) x (.ins cB dx' (LbFs d2 0)) = H1 at *
    have hd1 := e1 _ _ hd fun z => nomatch z
    have ha1 := e1 _ _ ha fun z => nomatch z
    walk_at "go"
    refine r_lockE hd1 fun od => ?_
    have hda : a ≠ d := fun z => by rw [z, hd] at ha; cases ha
    have ha2 : upd H1 d (.frz od (.dK l)) a = some (.ins cB dx (LbFs d n)) := by rw [upd_ne hda]; exact ha1
    have hd2' : upd H1 d (.frz od (.dK l)) d = some (.frz od (.dK l)) := upd_same
    walk_at "go"
    refine ⟨d, od, rfl, .inl ⟨l, hd2', ?_⟩⟩
    intro D hD
    refine r_dcK (kv := l) (fun i H2 => H2 D = some (.dK (l.take i)) ∧ Ext [] (upd H1 d (.frz od (.dK l))) H2) ⟨upd_same, Ext.refl.new hD⟩ (fun i H2 hi q => q.2 _ _ hd2' (fun z => nomatch z)) ?_ ?_
    · rintro i kk y H2 hy ⟨q1, q2⟩
      have ha3 := q2 _ _ ha2 (fun z => nomatch z)
      have hd3 := q2 _ _ hd2' (fun z => nomatch z)
      walk_at "go"
      refine ⟨rfl, ?_⟩
      walk_at "go"
      refine ⟨_, _, rfl, .inl ⟨l, kk, .inr ⟨od, hd3⟩, rfl, (valV_at (hl.nd nd0) hy).symm⟩, _, kk, rfl, q1, ?_, ?_, q2.own hD⟩
      · have := hl.len
        rw [List.length_take]
        exact Nat.lt_of_le_of_lt (by omega : min i l.length ≤ 4000) (by decide)
      · rw [putK_take (hl.nd nd0) hy]
        exact upd_same
    · rintro H2 ⟨q1, q2⟩
      rw [List.take_length] at q1
      have hx3 : H2 x = some (.ins cB dx' (LbFs d2 0)) := q2 _ _ (by rw [upd_ne (fun z => by rw [z, hd] at hx; cases hx)]; exact hx1) (fun z => nomatch z)
      refine ⟨q2 _ _ hd2' (fun z => nomatch z), ?_⟩
      have eL : Ext [d] H1 H2 := fun b o hb nb => q2 _ _ (by rw [upd_ne (fun z => nb (List.mem_singleton.mpr z))]; exact hb) (fun z => nomatch z)
      have eU := ext_unlock hd1 eL
      have hxd : x ≠ d := fun z => by rw [z, hd] at hx; cases hx
      have hDd : D ≠ d := fun z => by rw [z, hd2'] at hD; cases hD
      have hDx : D ≠ x := fun z => by rw [z, upd_ne hxd, hx1] at hD; cases hD
      have hx4 : upd H2 d (HO.dK l) x = some (.ins cB dx' (LbFs d2 0)) := by rw [upd_ne hxd]; exact hx3
      have hD4 : upd H2 d (HO.dK l) D = some (.dK l) := by rw [upd_ne hDd]; exact q1
      have ha4 : upd H2 d (HO.dK l) a = some (.ins cB dx (LbFs d n)) := eU _ _ ha1 (fun z => nomatch z)
      have hD0 : H D = none := by
        cases q : H D with
        | none => rfl
        | some o =>
          have z := e1 _ _ q (fun z => nomatch z)
          rw [upd_ne hDd, z] at hD
          cases hD
      have hxa : x ≠ a := fun z => by rw [z, ha] at hx; cases hx
      have e3 := e1.trans eU
      generalize upd H2 d (HO.dK l) = H3 at *
      walk_at "go"
      refine ⟨x, dx', _, rfl, hx4, (by show 2 < 1000; decide), ?_⟩
      rw [put_Lb_letters]
      have hx5 : upd H3 x (.ins cB dx' (LbFs D 0)) x = some (.ins cB dx' (LbFs D 0)) := upd_same
      have ha5 : upd H3 x (.ins cB dx' (LbFs D 0)) a = some (.ins cB dx (LbFs d n)) := by rw [upd_ne hxa.symm]; exact ha4
      have hD5 : upd H3 x (.ins cB dx' (LbFs D 0)) D = some (.dK l) := by rw [upd_ne hDx]; exact hD4
      have e4 : Ext [] H (upd H3 x (.ins cB dx' (LbFs D 0))) := e3.own hx
      generalize upd H3 x (.ins cB dx' (LbFs D 0)) = H4 at *
      walk_at "go"
      refine ⟨x, dx', _, rfl, hx5, (by show 2 < 1000; decide), ?_⟩
      rw [show ((0 : Int) = ((0 : Nat) : Int)) from rfl, put_Lb_coming]
      walk_at "go"
      refine k D x _ hx hD0 hDx (e4.own hx) ⟨dx', l, upd_same, by rw [upd_ne hDx]; exact hD5, hl.imp fun _ _ z => z.f (e4.own hx) (fun _ z => nomatch z) (fun _ z => nomatch z)⟩
end
end Yk

set_option maxHeartbeats 4000000
namespace Yk
open PySem PySem.Spec PyProof.Rows L2 L2H

local macro_rules | `(tactic| walk_at "st") => `(tactic| first
  | with_reducible refine' r_tAt ?_
  | ((with_reducible refine' r_fld ?h1 ?h2 ?h3); (case h1 => first | assumption | exact upd_same); (case h2 => first | walk_at "lk" | rfl))
  | with_reducible refine' r_sAt ?_
  | ((with_reducible refine' r_putU ?h1 ?h2); (case h1 => (repeat refine putF_lt ?_); decide))
  | ((with_reducible refine' r_put ?h1 ?h2 ?h3); (case h1 => first | assumption | exact upd_same); (case h2 => (repeat refine putF_lt ?_); decide))
  | with_reducible refine' r_tMt ?_
  | ((with_reducible refine' r_met ?h1 ?h2 ?h3); (case h1 => first | assumption | exact upd_same); (case h2 => first | walk_at "lk" | rfl))
  | with_reducible refine' r_tCr ?_
  | with_reducible refine' r_tCrK ?_
  | with_reducible refine' r_chain ?_)
local macro_rules | `(tactic| walk_at "st") => `(tactic| first
  | with_reducible refine' r_dget ?_
  | with_reducible refine' r_dc ?_
  | with_reducible refine' r_iVals ?_
  | with_reducible refine' r_dnotin ?_
  | with_reducible refine' r_din ?_
  | with_reducible refine' r_iItems ?_
  | with_reducible refine' r_iKeysT ?_
  | with_reducible refine' r_tget1 ?_
  | with_reducible refine' r_tget2 ?_
  | with_reducible refine' r_dput ?_
  | with_reducible refine' r_tPr ?_
  | ((with_reducible refine' r_prp2 ?h1 ?h2); (case h1 => first | assumption | exact upd_same))
  | with_reducible refine' r_par3 ?_
  | ((with_reducible refine' r_dnT ?_); (intro np hnp))
  | ((with_reducible refine' r_dnK ?_); (intro np hnp)))
/-! Channels, words, letters, as data. -/
/-- all but S and the tables stay -/
def ExtT (S : List Addr) (H H' : Hp) : Prop := ∀ b o, H b = some o → b ∉ S → (∀ ps, o ≠ .tbl ps) → H' b = some o
section
variable {K : PySem.W.Frag} {H H1 H2 : Hp} {S T : List Addr}
theorem ExtT.of (e : Ext S H H1) : ExtT S H H1 := fun b o h n _ => e b o h n
theorem ExtT.n (e : LamX.ExtN H H1) : ExtT S H H1 := fun b o h _ n => e b o h n
theorem ExtT.trans (e : ExtT S H H1) (e2 : ExtT S H1 H2) : ExtT S H H2 := fun b o h n m => e2 b o (e b o h n m) n m
theorem ExtT.mono (e : ExtT S H H1) (h : ∀ x ∈ S, x ∈ T) : ExtT T H H1 := fun b o hb n m => e b o hb (fun z => n (h b z)) m
theorem tupT (e : ExtT S H H1) {a : Addr} {xs : List V} (h : SqT K H a xs) (hs : NoTup H S) : SqT K H1 a xs := by
  rcases h with (h | ⟨o, h⟩) | h
  · exact .inl (.inl (e a _ h (fun z => by obtain ⟨o, q, n, _⟩ := hs a z; rw [h] at q; cases q; exact n _ rfl) fun _ z => nomatch z))
  · exact .inl (.inr ⟨o, e a _ h (fun z => by obtain ⟨o, q, _, n⟩ := hs a z; rw [h] at q; cases q; exact n _ _ rfl) fun _ z => nomatch z⟩)
  · exact .inr h
end
mutual
def noL : PyData → Bool
  | .tuple xs => noLAll xs
  | .none => true
  | .bool _ => true
  | .int _ => true
  | .str _ => true
  | .list _ => false
  | .dict _ => false
def noLAll : List PyData → Bool
  | [] => true
  | x :: xs => noL x && noLAll xs
end
mutual
def lenOk : PyData → Bool
  | .tuple xs => decide (xs.length ≤ 4000) && lenOkAll xs
  | .list xs => decide (xs.length ≤ 4000) && lenOkAll xs
  | .none => true
  | .bool _ => true
  | .int _ => true
  | .str _ => true
  | .dict _ => false
def lenOkAll : List PyData → Bool
  | [] => true
  | x :: xs => lenOk x && lenOkAll xs
end
section
variable {K : PySem.W.Frag} {H H1 : Hp} {S : List Addr}
mutual
theorem dpT (e : ExtT S H H1) (nt : NoTup H S) : ∀ {v : V} {d : PyData}, Dp K H v d → noL d = true → Dp K H1 v d
  | _, _, .non, _ => .non
  | _, _, .bl b, _ => .bl b
  | _, _, .int i, _ => .int i
  | _, _, .str z, _ => .str z
  | _, _, .lst h g, n => by simp [noL] at n
  | _, _, .tup h g, n => .tup (tupT e h nt) (dpAllT e nt g (by simpa [noL] using n))
theorem dpAllT (e : ExtT S H H1) (nt : NoTup H S) : ∀ {vs : List V} {ds : List PyData}, DpAll K H vs ds → noLAll ds = true → DpAll K H1 vs ds
  | _, _, .nil, _ => .nil
  | _, _, .cons h g, n => by
    have n' := Bool.and_eq_true_iff.mp (by simpa [noLAll] using n : (noL _ && noLAll _) = true)
    exact .cons (dpT e nt h n'.1) (dpAllT e nt g n'.2)
end
theorem DpAll.get : ∀ {vs : List V} {ds : List PyData} {i : Nat} {v : V}, DpAll K H vs ds → vs[i]? = some v → ∃ d, ds[i]? = some d ∧ Dp K H v d
  | _, _, 0, _, .cons h _, e => by cases e; exact ⟨_, rfl, h⟩
  | _, _, i + 1, _, .cons _ r, e => DpAll.get (i := i) r e
  | _, _, 0, _, .nil, e => by cases e
  | _, _, _ + 1, _, .nil, e => by cases e
theorem DpAll.len : ∀ {vs : List V} {ds : List PyData}, DpAll K H vs ds → vs.length = ds.length
  | _, _, .nil => rfl
  | _, _, .cons _ r => by rw [List.length_cons, List.length_cons, DpAll.len r]
mutual
theorem dp_eqd : ∀ (x : PyData) {n : Nat} {v w : V}, Dp K H v x → Dp K H w x → x.depth ≤ n → lenOk x = true → Eqd K H n v w
  | .none, n, _, _, h, g, _, _ => by cases h; cases g; exact .non n
  | .bool b, n, _, _, h, g, _, _ => by cases h; cases g; exact .bl n b
  | .int i, n, _, _, h, g, _, _ => by cases h; cases g; exact .int n i
  | .str z, n, _, _, h, g, _, _ => by cases h; cases g; exact .str n z
  | .dict _, n, _, _, h, _, _, _ => by cases h
  | .list xs, 0, _, _, h, g, dn, _ => by simp [PyData.depth] at dn
  | .tuple xs, 0, _, _, h, g, dn, _ => by simp [PyData.depth] at dn
  | .list xs, n + 1, _, _, h, g, dn, lo => by
    cases h with
    | lst h1 h2 =>
      cases g with
      | lst g1 g2 =>
        have lo' := Bool.and_eq_true_iff.mp (by simpa [lenOk] using lo : (decide (xs.length ≤ 4000) && lenOkAll xs) = true)
        exact .lst h1 g1 (by rw [DpAll.len h2, DpAll.len g2]) (by rw [DpAll.len h2]; exact of_decide_eq_true lo'.1) (dpAll_eqd xs h2 g2 (by simp [PyData.depth] at dn; exact dn) lo'.2)
  | .tuple xs, n + 1, _, _, h, g, dn, lo => by
    cases h with
    | tup h1 h2 =>
      cases g with
      | tup g1 g2 =>
        have lo' := Bool.and_eq_true_iff.mp (by simpa [lenOk] using lo : (decide (xs.length ≤ 4000) && lenOkAll xs) = true)
        exact .tup h1 g1 (by rw [DpAll.len h2, DpAll.len g2]) (by rw [DpAll.len h2]; exact of_decide_eq_true lo'.1) (dpAll_eqd xs h2 g2 (by simp [PyData.depth] at dn; exact dn) lo'.2)
theorem dpAll_eqd : ∀ (xs : List PyData) {n : Nat} {vs ws : List V}, DpAll K H vs xs → DpAll K H ws xs → PyData.depthAll xs ≤ n → lenOkAll xs = true → ∀ (i : Nat) (a b : V), vs[i]? = some a → ws[i]? = some b → Eqd K H n a b
  | [], _, _, _, h, g, _, _, i, a, b, ha, hb => by cases h; simp at ha
  | x :: xs, n, _, _, h, g, dn, lo, i, a, b, ha, hb => by
    cases h with
    | cons h1 h2 =>
      cases g with
      | cons g1 g2 =>
        have lo' := Bool.and_eq_true_iff.mp (by simpa [lenOkAll] using lo : (lenOk x && lenOkAll xs) = true)
        have dn' : max x.depth (PyData.depthAll xs) ≤ n := by simpa [PyData.depthAll] using dn
        cases i with
        | zero => cases ha; cases hb; exact dp_eqd x h1 g1 (by omega) lo'.1
        | succ i => exact dpAll_eqd xs h2 g2 (by omega) lo'.2 i a b ha hb
end
end
def chans : List PyData := [.tuple [.str "level", .str "a", .str "b", .str ""], .tuple [.str "level", .str "b", .str "f", .str ""], .tuple [.str "manner", .str "f", .str "a", .str "f"], .tuple [.str "room", .str "a", .str "f", .str "f"], .tuple [.str "came", .str "g", .str "g", .str "g"], .tuple [.str "ask", .str "f", .str "a", .str "f"], .tuple [.str "bit", .str "a", .str "f", .str "f"]]
def amDt (q : Rat) : PyData := .tuple [.int q.num, .int (q.den : Int)]
inductive IsWd : PyData → Prop
  | bl (b : Bool) : IsWd (.bool b)
  | am (q : Rat) : IsWd (amDt q)
  | no : IsWd (.tuple [])
  | mn (q r : Rat) : IsWd (.tuple [amDt q, amDt r])
/-- a letter with this number -/
def IsL (k : Int) (x : PyData) : Prop := ∃ ch t w, x = .tuple [.int k, ch, .int t, w] ∧ ch ∈ chans ∧ IsWd w
structure DataOk (n : Nat) (x : PyData) : Prop where
  lay : x.canLay0 = true
  dep : x.depth ≤ n
  nol : noL x = true
  len : lenOk x = true
theorem DataOk.shaped {n : Nat} {x : PyData} (h : DataOk n x) (hn : n ≤ 64 := by decide) : SeqAt.shaped x = true := by
  unfold SeqAt.shaped
  rw [h.lay, Bool.true_and, decide_eq_true_iff]
  exact Nat.le_trans h.dep hn
theorem DataOk.up {n m : Nat} {x : PyData} (h : DataOk n x) (hn : n ≤ m) : DataOk m x := ⟨h.lay, Nat.le_trans h.dep hn, h.nol, h.len⟩
theorem chan_ok {x : PyData} (h : x ∈ chans) : DataOk 1 x := by
  simp only [chans, List.mem_cons, List.not_mem_nil, or_false] at h
  rcases h with rfl | rfl | rfl | rfl | rfl | rfl | rfl <;> exact ⟨by decide +kernel, by decide +kernel, by decide +kernel, by decide +kernel⟩
theorem chan_str {x : PyData} (h : x ∈ chans) : ∃ a b c d, x = .tuple [.str a, .str b, .str c, .str d] := by
  simp only [chans, List.mem_cons, List.not_mem_nil, or_false] at h
  rcases h with rfl | rfl | rfl | rfl | rfl | rfl | rfl <;> exact ⟨_, _, _, _, rfl⟩
theorem wd_ok {x : PyData} (h : IsWd x) : DataOk 2 x := by
  cases h with
  | bl b => exact ⟨rfl, by simp [PyData.depth], by simp [noL], by simp [lenOk]⟩
  | am q => exact ⟨rfl, by simp [amDt, PyData.depth, PyData.depthAll], by simp [amDt, noL, noLAll], by simp [amDt, lenOk, lenOkAll]⟩
  | no => exact ⟨rfl, by simp [PyData.depth, PyData.depthAll], by simp [noL, noLAll], by simp [lenOk, lenOkAll]⟩
  | mn q r => exact ⟨rfl, by simp [amDt, PyData.depth, PyData.depthAll], by simp [amDt, noL, noLAll], by simp [amDt, lenOk, lenOkAll]⟩
theorem let_ok {k : Int} {x : PyData} (h : IsL k x) : DataOk 3 x := by
  obtain ⟨ch, t, w, rfl, hc, hw⟩ := h
  have c := chan_ok hc
  have d := wd_ok hw
  have c2 := c.dep
  have d2 := d.dep
  refine ⟨?_, ?_, ?_, ?_⟩
  · simp [PyData.canLay0, PyData.canLayAll0, c.lay, d.lay]
  · simp [PyData.depth, PyData.depthAll]; omega
  · simp [noL, noLAll, c.nol, d.nol]
  · simp [lenOk, lenOkAll, c.len, d.len]
theorem am_dp {K : PySem.W.Frag} {H : Hp} {v : V} {q : Rat} (h : Am K H v q) : Dp K H v (amDt q) := by
  obtain ⟨a, rfl, h⟩ := h
  exact .tup h (.cons (.int _) (.cons (.int _) .nil))
theorem bag_nt {K : PySem.W.Frag} {H : Hp} {b : Bag} (h : BagAt K H b) : NoTup H [b.a] := by
  obtain ⟨l, hl⟩ := h.lst
  exact no_lst hl
section
variable {P : Program} {w : World} {K : PySem.W.Frag} {mg : Str → Option Value} {base : Heap} {f : Addr} {fd : FuncData}
def spChanK (K : PySem.W.Frag) : Sp := fun vs H Q _ => ∃ (b : Bag), vs = [.ref b.a] ∧ BagAt K H b ∧ ∀ v x H', Dp K H' v x → x ∈ chans → BagAt K H' b → Ext [b.a] H H' → Q v H'
abbrev s_law_chan : Stmt := top 16
theorem c_law_chan : FnScope ["_law_bag_here", "_law_found"] ["_law_bag_here"] (defScope s_law_chan) := ⟨rfl, rfl, rfl, by decide +kernel, rfl, by decide +kernel, by decide +kernel⟩
theorem f_law_chan (F : FunD K "_law_chan" "_law_chan" (defArgs s_law_chan) (defBody s_law_chan) (defScope s_law_chan) [] [] f fd) (hm : mg "_law_chan" = some (.ref f)) (T : Bt mg) (F_law_of : Fn P w K mg base 2 "_law_of" (spOf K)) : Fn P w K mg base 3 "_law_chan" (spChanK K) := by
  refine fn_def F hm c_law_chan (fun vs H Q E h => ?_) (fun _ _ _ _ _ _ us hl => match us, hl with | [_], _ => rfl) (fun cdv A outer s H vs Q E hr h => ?_)
  · obtain ⟨b, rfl, _⟩ := h
    rfl
  · obtain ⟨b, rfl, hb, k⟩ := h
    have nd := c_law_chan.nd
    refine ⟨_, (pss_cons (ps_set (i := 1) nd rfl (by first | exact Or.inl rfl | exact Or.inr rfl) (pe_lst (pa_cons (pe_tup (pa_cons pe_str (pa_cons pe_str (pa_cons pe_str (pa_cons pe_str pa_nil))))) (pa_cons (pe_tup (pa_cons pe_str (pa_cons pe_str (pa_cons pe_str (pa_cons pe_str pa_nil))))) (pa_cons (pe_tup (pa_cons pe_str (pa_cons pe_str (pa_cons pe_str (pa_cons pe_str pa_nil))))) (pa_cons (pe_tup (pa_cons pe_str (pa_cons pe_str (pa_cons pe_str (pa_cons pe_str pa_nil))))) pa_nil))))))
      (pss_one (ps_ret (pe_fn F_law_of (hr.mono (by decide)) (pa_cons (pv 0) (pa_cons (pe_op op_cat (pv 1) (pe_lst (pa_cons (pe_tup (pa_cons pe_str (pa_cons pe_str (pa_cons pe_str (pa_cons pe_str pa_nil))))) (pa_cons (pe_tup (pa_cons pe_str (pa_cons pe_str (pa_cons pe_str (pa_cons pe_str pa_nil))))) (pa_cons (pe_tup (pa_cons pe_str (pa_cons pe_str (pa_cons pe_str (pa_cons pe_str pa_nil))))) pa_nil))))) pa_nil)))))), ?_⟩
    show (_ : TS) _ [some _, none] _
    try dsimp only [cxOf, Cx.nox]
    walk_at "go"
    rename_i p1 h1 p2 h2 p3 h3 p4 h4 l1 hl1 p5 h5 p6 h6 p7 h7 l2 hl2
    generalize hG : upd _ l2 _ = H2
    have hr1 : DpAll K H2 [.ref p1, .ref p2, .ref p3, .ref p4, .ref p5, .ref p6, .ref p7] chans := by
      rw [← hG]
      refine .cons (.tup (by walk_at "sq") ?_) (.cons (.tup (by walk_at "sq") ?_) (.cons (.tup (by walk_at "sq") ?_) (.cons (.tup (by walk_at "sq") ?_) (.cons (.tup (by walk_at "sq") ?_) (.cons (.tup (by walk_at "sq") ?_) (.cons (.tup (by walk_at "sq") ?_) .nil)))))) <;> exact .cons (.str _) (.cons (.str _) (.cons (.str _) (.cons (.str _) .nil)))
    have e2 : Ext [] H H2 := by rw [← hG]; walk_at "ext"
    have hl1' : H2 l1 = some (.lst [.ref p1, .ref p2, .ref p3, .ref p4]) := by
      rw [← hG]
      exact ((((Ext.refl.new h5).new h6).new h7).new hl2) _ _ upd_same List.not_mem_nil
    have hl2' : H2 l2 = some (.lst [.ref p5, .ref p6, .ref p7]) := by rw [← hG]; exact upd_same
    clear hG
    refine ⟨l1, l2, _, _, rfl, rfl, hl1', hl2', (show 7 ≤ sizeLine by decide), fun p hp => ?_⟩
    have b2 := hb.x0 e2
    walk_at "go"
    refine ⟨b, p, _, rfl, b2.new hp, lstS, b2.ne hp, Nat.zero_lt_succ _, show 7 ≤ 4000 by decide, fun i x H3 hx b3 n3 => ?_⟩
    obtain ⟨d, hd, hv⟩ := DpAll.get hr1 hx
    have hm := List.mem_of_getElem? hd
    have e3 : Ext [] H2 (upd H2 p (.lst [.ref p1, .ref p2, .ref p3, .ref p4, .ref p5, .ref p6, .ref p7])) := Ext.refl.new hp
    have hv2 := dpT (ExtT.of n3) (bag_nt (b2.new hp)) (dpx0 e3 hv) (chan_ok hm).nol
    exact k x d H3 hv2 hm b3 (((e2.trans e3).mono fun _ z => nomatch z).trans n3)
def spWordK (K : PySem.W.Frag) : Sp := fun vs H Q _ => ∃ (b : Bag) (c : V) (ch : PyData), vs = [.ref b.a, c] ∧ BagAt K H b ∧ Dp K H c ch ∧ ch ∈ chans ∧ ∀ v x H', Dp K H' v x → IsWd x → BagAt K H' b → Ext [b.a] H H' → Q v H'
abbrev s_law_word : Stmt := top 15
theorem c_law_word : FnScope ["_law_bag_here", "_law_chan_here", "_law_words"] ["_law_bag_here", "_law_chan_here"] (defScope s_law_word) := ⟨rfl, rfl, rfl, by decide +kernel, rfl, by decide +kernel, by decide +kernel⟩
theorem f_law_word (F : FunD K "_law_word" "_law_word" (defArgs s_law_word) (defBody s_law_word) (defScope s_law_word) [] [] f fd) (hm : mg "_law_word" = some (.ref f)) (T : Bt mg) (F_law_draw : Fn P w K mg base 1 "_law_draw" (spDraw K)) (F_law_of : Fn P w K mg base 2 "_law_of" (spOf K)) (F_law_some : Fn P w K mg base 3 "_law_some" (spSome K)) : Fn P w K mg base 4 "_law_word" (spWordK K) := by
  refine fn_def F hm c_law_word (fun vs H Q E h => ?_) (fun _ _ _ _ _ _ us hl => match us, hl with | [_, _], _ => rfl) (fun cdv A outer s H vs Q E hr h => ?_)
  · obtain ⟨b, c, ch, rfl, _⟩ := h
    rfl
  · obtain ⟨b, c, ch, rfl, hb, hc, hm, k⟩ := h
    have nd := c_law_word.nd
    refine ⟨_, (pss_cons (ps_if (pt_cmpR op_eq (pe_ix ix_tup (pv 1) pe_int (fun _ _ => rfl)) pe_str (nomark _))
        (pss_one (ps_ret (pe_cmpR op_eq (pe_fn F_law_draw (hr.mono (by decide)) (pa_cons (pv 0) (pa_cons pe_int pa_nil))) pe_int (nomark _))))
        pss_nil)
      (pss_cons (ps_set (i := 2) nd rfl (by first | exact Or.inl rfl | exact Or.inr rfl) (pe_lst (pa_cons (pe_fn F_law_some (hr.mono (by decide)) (pa_cons (pv 0) (pa_cons pe_int pa_nil))) (pa_cons (pe_tup (pa_cons pe_int (pa_cons pe_int pa_nil))) (pa_cons (pe_tup (pa_cons pe_int (pa_cons pe_int pa_nil))) (pa_cons (pe_tup (pa_cons pe_int (pa_cons pe_int pa_nil))) (pa_cons (pe_fn F_law_some (hr.mono (by decide)) (pa_cons (pv 0) (pa_cons pe_int pa_nil))) pa_nil)))))))
      (pss_cons (ps_if (pt_cmpR op_eq (pe_ix ix_tup (pv 1) pe_int (fun _ _ => rfl)) pe_str (nomark _))
        (pss_one (ps_ret (pe_ifExp (pt_cmpR op_eq (pe_fn F_law_draw (hr.mono (by decide)) (pa_cons (pv 0) (pa_cons pe_int pa_nil))) pe_int (nomark _)) (pe_tup pa_nil) (pe_tup (pa_cons (pe_fn F_law_of (hr.mono (by decide)) (pa_cons (pv 0) (pa_cons (pv 2) pa_nil))) (pa_cons (pe_fn F_law_of (hr.mono (by decide)) (pa_cons (pv 0) (pa_cons (pv 2) pa_nil))) pa_nil))))))
        pss_nil)
      (pss_one (ps_ret (pe_fn F_law_of (hr.mono (by decide)) (pa_cons (pv 0) (pa_cons (pv 2) pa_nil)))))))), ?_⟩
    show (_ : TS) _ [some _, some _, none] _
    try dsimp only [cxOf, Cx.nox]
    obtain ⟨s1, s2, s3, s4, rfl⟩ := chan_str hm
    have hn := (chan_ok hm).nol
    have hc0 := hc
    cases hc with
    | tup hs g =>
      cases g with
      | cons g1 g =>
        cases g with
        | cons g2 g =>
          cases g with
          | cons g3 g =>
            cases g with
            | cons g4 g =>
              cases g
              cases g1
              cases g2
              cases g3
              cases g4
              walk_at "go"
              by_cases e : V.str s1 = V.str (Str.ofString "bit")
              · rw [if_pos (decide_eq_true e)]
                walk_at "go"
                refine k_draw hb (by decide) (by decide) fun x H1 _ _ b1 n1 => ?_
                walk_at "go"
                exact k _ _ H1 (.bl _) (.bl _) b1 n1
              · rw [if_neg (by simpa using e)]
                walk_at "go"
                refine ⟨b, 9, rfl, hb, by decide, fun v0 q0 H1 a0 i0 b1 n1 => ?_⟩
                walk_at "go"
                rename_i t1 k1 t2 k2 t3 k3
                generalize hG : upd _ t3 _ = H2
                have e2 : Ext [] H1 H2 := by rw [← hG]; walk_at "ext"
                have w1 : Am K H2 (.ref t1) ⟨0, 1, by decide, by decide⟩ := by rw [← hG]; exact am_lit (by decide) (by decide) (by walk_at "sq")
                have w2 : Am K H2 (.ref t2) ⟨1000, 1, by decide, by decide⟩ := by rw [← hG]; exact am_lit (by decide) (by decide) (by walk_at "sq")
                have w3 : Am K H2 (.ref t3) ⟨1501, 1, by decide, by decide⟩ := by rw [← hG]; exact am_lit (by decide) (by decide) (by walk_at "sq")
                clear hG
                have b2 := b1.x0 e2
                refine ⟨b, 9, rfl, b2, by decide, fun v4 q4 H3 a4 i4 b3 n3 => ?_⟩
                have ws : Ams K H3 [v0, .ref t1, .ref t2, .ref t3, v4] [q0, _, _, _, q4] := .cons ((a0.x0 e2).b b2 n3) (.cons (w1.b b2 n3) (.cons (w2.b b2 n3) (.cons (w3.b b2 n3) (.cons a4 .nil))))
                have e3 : Ext [b.a] H H3 := n1.trans ((e2.mono fun _ z => nomatch z).trans n3)
                have hs3 : SqT K H3 _ [V.str s1, V.str s2, V.str s3, V.str s4] := tupB hb e3 hs
                walk_at "go"
                rename_i p hp
                have e4 : Ext [] H3 (upd H3 p (.lst [v0, .ref t1, .ref t2, .ref t3, v4])) := Ext.refl.new hp
                have hp4 : SqL K (upd H3 p (.lst [v0, .ref t1, .ref t2, .ref t3, v4])) p [v0, .ref t1, .ref t2, .ref t3, v4] := lstS
                have b4 := b3.new (o := .lst [v0, .ref t1, .ref t2, .ref t3, v4]) hp
                have ws4 := ws.x0 e4
                have hs4 := tup0 e4 hs3
                have nbp : b.a ≠ p := b3.ne hp
                have e5 : Ext [b.a] H (upd H3 p (.lst [v0, .ref t1, .ref t2, .ref t3, v4])) := e3.trans (e4.mono fun _ z => nomatch z)
                generalize upd H3 p (.lst [v0, .ref t1, .ref t2, .ref t3, v4]) = H4 at *
                walk_at "go"
                by_cases e' : V.str s1 = V.str (Str.ofString "manner")
                · rw [if_pos (decide_eq_true e')]
                  walk_at "go"
                  refine k_draw b4 (by decide) (by decide) fun x H5 _ _ b5 n5 => ?_
                  have hp5 : SqL K H5 p _ := lstX n5 hp4 (by simpa using nbp.symm)
                  have ws5 := ws4.b b4 n5
                  walk_at "go"
                  refine r_dec (fun hz => ?_) (fun hz => ?_)
                  · walk_at "go"
                    rename_i t ht
                    have e6 : Ext [] H5 (upd H5 t (.tup [])) := Ext.refl.new ht
                    exact k _ _ _ (.tup (tupS (xs := [])) .nil) .no (b5.x0 e6) (e5.trans (n5.trans (e6.mono fun _ z => nomatch z)))
                  · walk_at "go"
                    refine of_am b5 hp5 nbp ws5 (Nat.zero_lt_succ _) (show 5 ≤ 4000 by decide) fun v q H6 _ hq b6 n6 => ?_
                    walk_at "go"
                    refine of_am b6 (lstX n6 hp5 (by simpa using nbp.symm)) nbp (ws5.b b5 n6) (Nat.zero_lt_succ _) (show 5 ≤ 4000 by decide) fun u r H7 _ hr7 b7 n7 => ?_
                    walk_at "go"
                    rename_i t ht
                    have e6 : Ext [] H7 (upd H7 t (.tup [v, u])) := Ext.refl.new ht
                    exact k _ _ _ (.tup (tupS (xs := [v, u])) (.cons (am_dp ((hq.b b6 n7).x0 e6)) (.cons (am_dp (hr7.x0 e6)) .nil))) (.mn _ _) (b7.x0 e6) (e5.trans (n5.trans (n6.trans (n7.trans (e6.mono fun _ z => nomatch z)))))
                · rw [if_neg (by simpa using e')]
                  walk_at "go"
                  refine of_am b4 hp4 nbp ws4 (Nat.zero_lt_succ _) (show 5 ≤ 4000 by decide) fun v q H5 _ hq b5 n5 => ?_
                  exact k _ _ _ (am_dp hq) (.am _) b5 (e5.trans n5)
end
end Yk

set_option maxHeartbeats 4000000
namespace Yk
open PySem PySem.Spec PyProof.Rows L2 L2H

local macro_rules | `(tactic| walk_at "st") => `(tactic| first
  | with_reducible refine' r_tAt ?_
  | ((with_reducible refine' r_fld ?h1 ?h2 ?h3); (case h1 => first | assumption | exact upd_same); (case h2 => first | walk_at "lk" | rfl))
  | with_reducible refine' r_sAt ?_
  | ((with_reducible refine' r_putU ?h1 ?h2); (case h1 => (repeat refine putF_lt ?_); decide))
  | ((with_reducible refine' r_put ?h1 ?h2 ?h3); (case h1 => first | assumption | exact upd_same); (case h2 => (repeat refine putF_lt ?_); decide))
  | with_reducible refine' r_tMt ?_
  | ((with_reducible refine' r_met ?h1 ?h2 ?h3); (case h1 => first | assumption | exact upd_same); (case h2 => first | walk_at "lk" | rfl))
  | with_reducible refine' r_tCr ?_
  | with_reducible refine' r_tCrK ?_
  | with_reducible refine' r_chain ?_)
local macro_rules | `(tactic| walk_at "st") => `(tactic| first
  | with_reducible refine' r_dget ?_
  | with_reducible refine' r_dc ?_
  | with_reducible refine' r_iVals ?_
  | with_reducible refine' r_dnotin ?_
  | with_reducible refine' r_din ?_
  | with_reducible refine' r_iItems ?_
  | with_reducible refine' r_iKeysT ?_
  | with_reducible refine' r_tget1 ?_
  | with_reducible refine' r_tget2 ?_
  | with_reducible refine' r_dput ?_
  | with_reducible refine' r_tPr ?_
  | ((with_reducible refine' r_prp2 ?h1 ?h2); (case h1 => first | assumption | exact upd_same))
  | with_reducible refine' r_par3 ?_
  | ((with_reducible refine' r_dnT ?_); (intro np hnp))
  | ((with_reducible refine' r_dnK ?_); (intro np hnp)))
/-! A side: a bag, the law's rows, the count. A strange number. -/
structure GoodL (c : List (Int × PyData)) (n : Nat) : Prop where
  asc : c.Pairwise fun p q => p.1 < q.1
  ok : ∀ p ∈ c, 0 ≤ p.1 ∧ p.1 < n ∧ IsL p.1 p.2
theorem asc_nd {c : List (Int × PyData)} (h : c.Pairwise fun p q => p.1 < q.1) : (c.map (·.1)).Nodup := List.pairwise_map.mpr (h.imp fun z e => by omega)
theorem GoodL.nd {c : List (Int × PyData)} {n : Nat} (g : GoodL c n) : (c.map (·.1)).Nodup := asc_nd g.asc
theorem asc_len : ∀ {c : List (Int × PyData)} {lo n : Int}, (c.Pairwise fun p q => p.1 < q.1) → (∀ p ∈ c, lo ≤ p.1 ∧ p.1 < n) → lo ≤ n → (c.length : Int) ≤ n - lo
  | [], lo, n, _, _, h => by simp; omega
  | p :: c, lo, n, h, g, _ => by
    obtain ⟨h1, h2⟩ := List.pairwise_cons.mp h
    have g0 := g p List.mem_cons_self
    have := asc_len (lo := p.1 + 1) (n := n) h2 (fun q hq => ⟨h1 q hq, (g q (List.mem_cons_of_mem _ hq)).2⟩) (by omega)
    rw [List.length_cons]
    omega
theorem GoodL.len {c : List (Int × PyData)} {n : Nat} (g : GoodL c n) : c.length ≤ n := by
  have := asc_len g.asc (lo := 0) (n := n) (fun p hp => ⟨(g.ok p hp).1, (g.ok p hp).2.1⟩) (by omega)
  omega
theorem in_nums {i : Int} : ∀ {c : List (Int × PyData)}, inV (.int i) (c.map fun p => V.int p.1) = (gv c i).isSome := by
  intro c
  rw [← gv_any]
  unfold inV
  rw [List.any_map]
  congr 1
/-- the law's rows -/
def RowsAt (K : PySem.W.Frag) (H : Hp) (p : Addr) (c : List (Int × PyData)) : Prop := ∃ vs, H p = some (.lst vs) ∧ LtAll K H vs c
section
variable {K : PySem.W.Frag} {H H1 : Hp} {S : List Addr} {c : List (Int × PyData)} {n : Nat}
theorem LtAll.t {vs : List V} (h : LtAll K H vs c) (g : GoodL c n) (e : ExtT S H H1) (nt : NoTup H S) : LtAll K H1 vs c := h.impM fun v q hq z => ⟨dpT e nt z.1 (let_ok (g.ok q hq).2.2).nol, z.2⟩
theorem RowsAt.t {p : Addr} (h : RowsAt K H p c) (g : GoodL c n) (e : ExtT S H H1) (nt : NoTup H S) (hp : p ∉ S) : RowsAt K H1 p c := by
  obtain ⟨vs, h1, h2⟩ := h
  exact ⟨vs, e _ _ h1 hp fun _ z => (nomatch z), h2.t g e nt⟩
theorem LbAt.t {cB d a : Addr} (h : LbAt cB K H d a c n) (g : GoodL c n) (e : ExtT S H H1) (nt : NoTup H S) (ha : a ∉ S) (hd : d ∉ S) : LbAt cB K H1 d a c n := by
  obtain ⟨dx, l, h1, h2, h3⟩ := h
  refine ⟨dx, l, e _ _ h1 ha fun _ z => (nomatch z), e _ _ h2 hd fun _ z => (nomatch z), ?_⟩
  clear h1 h2
  have g2 := g.ok
  clear g
  induction h3 with
  | nil => exact .nil
  | cons z _ ih => exact .cons ⟨dpT e nt z.1 (let_ok (g2 _ List.mem_cons_self).2.2).nol, z.2⟩ (ih fun p hp => g2 p (List.mem_cons_of_mem _ hp))
end
/-- what a strange value may be -/
def atomD : PyData → Bool
  | .none => true
  | .bool _ => true
  | .int _ => true
  | .str _ => true
  | _ => false
def flatD : PyData → Bool
  | .list ds => ds.all atomD && decide (ds.length ≤ 10)
  | .tuple ds => ds.all atomD && decide (ds.length ≤ 10)
  | d => atomD d
theorem dlen_one {x : PyData} (f : atomD x = true) : x.depth = 0 ∧ lenOk x = true := by
  cases x with
  | list _ => cases f
  | tuple _ => cases f
  | dict _ => cases f
  | _ => exact ⟨by simp [PyData.depth], by simp [lenOk]⟩
theorem dlen_all : ∀ {ds : List PyData}, ds.all atomD = true → PyData.depthAll ds = 0 ∧ lenOkAll ds = true
  | [], _ => ⟨by simp [PyData.depthAll], by simp [lenOkAll]⟩
  | x :: ds, h => by
    have h' := Bool.and_eq_true_iff.mp (by simpa using h : (atomD x && ds.all atomD) = true)
    have a := dlen_one h'.1
    have b := dlen_all h'.2
    exact ⟨by simp [PyData.depthAll, a.1, b.1], by simp [lenOkAll, a.2, b.2]⟩
theorem flat_ok {x : PyData} (f : flatD x = true) : x.depth ≤ 4 ∧ lenOk x = true := by
  cases x with
  | list ds =>
    have h' := Bool.and_eq_true_iff.mp (by simpa [flatD] using f : (ds.all atomD && decide (ds.length ≤ 10)) = true)
    have b := dlen_all h'.1
    have l := of_decide_eq_true h'.2
    exact ⟨by simp [PyData.depth, b.1], by simp [lenOk, b.2]; omega⟩
  | tuple ds =>
    have h' := Bool.and_eq_true_iff.mp (by simpa [flatD] using f : (ds.all atomD && decide (ds.length ≤ 10)) = true)
    have b := dlen_all h'.1
    have l := of_decide_eq_true h'.2
    exact ⟨by simp [PyData.depth, b.1], by simp [lenOk, b.2]; omega⟩
  | dict _ => cases f
  | _ => exact ⟨by simp [PyData.depth], by simp [lenOk]⟩
theorem gv_none_of {c : List (Int × PyData)} {i : Int} (h : ∀ p ∈ c, p.1 ≠ i) : gv c i = none := gv_none.mpr fun z => by
  obtain ⟨p, hp, e⟩ := List.mem_map.mp z
  exact h p hp e
theorem lt_tup {K : PySem.W.Frag} {H : Hp} {v : V} {i : Int} {x : PyData} (h : Lt K H v x) (g : IsL i x) : ∃ (a : Addr) (u w : V) (t : Int) (ch wd : PyData), v = .ref a ∧ SqT K H a [.int i, u, .int t, w] ∧ Dp K H u ch ∧ Dp K H w wd ∧ ch ∈ chans ∧ IsWd wd ∧ x = .tuple [.int i, ch, .int t, wd] := by
  obtain ⟨ch, t, wd, rfl, hc, hw⟩ := g
  obtain ⟨h, _⟩ := h
  cases h with
  | tup hs g =>
    cases g with
    | cons g1 g =>
      cases g with
      | cons g2 g =>
        cases g with
        | cons g3 g =>
          cases g with
          | cons g4 g =>
            cases g
            cases g1
            cases g3
            exact ⟨_, _, _, _, _, _, rfl, hs, g2, g4, hc, hw, rfl⟩
theorem ints_dp {K : PySem.W.Frag} {H : Hp} : ∀ gs : List Int, DpAll K H (gs.map V.int) (gs.map PyData.int)
  | [] => .nil
  | g :: gs => .cons (.int g) (ints_dp gs)
theorem ints_lay : ∀ gs : List Int, PyData.canLayAll0 (gs.map PyData.int) = true ∧ PyData.depthAll (gs.map PyData.int) = 0
  | [] => ⟨by simp [PyData.canLayAll0], by simp [PyData.depthAll]⟩
  | g :: gs => by
    have h := ints_lay gs
    exact ⟨by simp [PyData.canLayAll0, PyData.canLay0, h.1], by simp [PyData.depthAll, PyData.depth, h.2]⟩
theorem ints_shaped (gs : List Int) : SeqAt.shaped (.list (gs.map PyData.int)) = true := by
  have h := ints_lay gs
  simp [SeqAt.shaped, PyData.canLay0, PyData.depth, h.1, h.2]
def strD (n : Nat) : List PyData := [.none, .str "0", .str "", .list [], .list [.int 0], .tuple [.int 0], .tuple [], .int (-1), .int (n : Int), .int ((n : Int) + 1), .int 999999999, .tuple [.str "level", .str "a", .str "b", .str ""], .bool true, .bool false, .bool true]
theorem strD_ok {c : List (Int × PyData)} {n : Nat} (g : GoodL c n) (n9 : n ≤ 900) {x : PyData} (h : x ∈ strD n) : hasD c x = false ∧ flatD x = true := by
  have no : ∀ i : Int, (i < 0 ∨ (n : Int) ≤ i) → hasD c (.int i) = false := fun i hi => by
    show (gv c i).isSome = false
    rw [gv_none_of fun p hp e => ?_]
    · rfl
    · have := g.ok p hp
      omega
  simp only [strD, List.mem_cons, List.not_mem_nil, or_false] at h
  rcases h with rfl | rfl | rfl | rfl | rfl | rfl | rfl | rfl | rfl | rfl | rfl | rfl | rfl | rfl | rfl
  · exact ⟨rfl, rfl⟩
  · exact ⟨rfl, rfl⟩
  · exact ⟨rfl, rfl⟩
  · exact ⟨rfl, rfl⟩
  · exact ⟨rfl, rfl⟩
  · exact ⟨rfl, rfl⟩
  · exact ⟨rfl, rfl⟩
  · exact ⟨no _ (by omega), rfl⟩
  · exact ⟨no _ (by omega), rfl⟩
  · exact ⟨no _ (by omega), rfl⟩
  · exact ⟨no _ (by omega), rfl⟩
  · exact ⟨rfl, rfl⟩
  · exact ⟨rfl, rfl⟩
  · exact ⟨rfl, rfl⟩
  · exact ⟨rfl, rfl⟩
section
variable {P : Program} {w : World} {K : PySem.W.Frag} {mg : Str → Option Value} {base : Heap} {f : Addr} {fd : FuncData}
def spStrange (K : PySem.W.Frag) : Sp := fun vs H Q _ => ∃ (b : Bag) (p : Addr) (c : List (Int × PyData)) (n : Nat), vs = [.ref b.a, .ref p, .int (n : Int)] ∧ BagAt K H b ∧ RowsAt K H p c ∧ GoodL c n ∧ n ≤ 900 ∧ p ≠ b.a ∧ ∀ v x H', Dp K H' v x → hasD c x = false → flatD x = true → BagAt K H' b → Ext [b.a] H H' → Q v H'
abbrev s_law_strange : Stmt := top 18
theorem c_law_strange : FnScope ["_law_bag_here", "_law_rows", "_law_count", "_law_gone", "_law_k", "_law_row", "_law_found"] ["_law_bag_here", "_law_rows", "_law_count"] (defScope s_law_strange) := ⟨rfl, rfl, rfl, by decide +kernel, rfl, by decide +kernel, by decide +kernel⟩
theorem f_law_strange (F : FunD K "_law_strange" "_law_strange" (defArgs s_law_strange) (defBody s_law_strange) (defScope s_law_strange) [] [] f fd) (hm : mg "_law_strange" = some (.ref f)) (T : Bt mg) (F_law_draw : Fn P w K mg base 1 "_law_draw" (spDraw K)) (F_law_of : Fn P w K mg base 2 "_law_of" (spOf K)) : Fn P w K mg base 3 "_law_strange" (spStrange K) := by
  refine fn_def F hm c_law_strange (fun vs H Q E h => ?_) (fun _ _ _ _ _ _ us hl => match us, hl with | [_, _, _], _ => rfl) (fun cdv A outer s H vs Q E hr h => ?_)
  · obtain ⟨b, p, c, n, rfl, _⟩ := h
    rfl
  · obtain ⟨b, p, c, n, rfl, hb, ⟨vs, hp, hvs⟩, g, n9, npb, k⟩ := h
    have nd := c_law_strange.nd
    refine ⟨_, (pss_cons (ps_setLc (i := 3) (own := [("_law_k", 4)]) (g := gName 4) rfl nd rfl rfl (sw_true rfl rfl rfl (by decide +kernel)) (pi_range1 rfl T.range (pa_cons (pv 2) pa_nil)) (blkOk_by (N := ["_law_bag_here", "_law_rows", "_law_count", "_law_gone", "_law_k", "_law_row", "_law_found"]) (sc := defScope s_law_strange) (by decide +kernel)) (fun _ _ _ _ _ => pg_name (i := 4) nd rfl (Or.inl rfl)) (fun _ _ _ _ _ => (pts_one (pt_cmpR (r := rIn K true) op_notIn_seq (pv 4) (by exact pe_lc (own := [("_law_row", 5)]) (g := gName 5) rfl nd (pi_list (pv 1) : PI _ _ _ (iList K _)) (blkOk_by (by kernel_rfl)) (fun _ _ _ _ _ => pg_name (i := 5) nd rfl (Or.inl rfl)) (fun _ _ _ _ _ => pts_nil) (fun _ _ _ _ _ => (pe_ix ix_tup (pv 5) pe_int (fun _ _ => rfl) : PE _ _ (tOp (rIxT K) _ _)))) (by rfl)))) (fun _ _ _ _ _ => (pv 4)))
      (pss_cons (ps_set (i := 6) nd rfl (by first | exact Or.inl rfl | exact Or.inr rfl) (pe_lst (pa_cons pe_non (pa_cons pe_str (pa_cons pe_str (pa_cons (pe_lst pa_nil) (pa_cons (pe_lst (pa_cons pe_int pa_nil)) (pa_cons (pe_tup (pa_cons pe_int pa_nil)) (pa_cons (pe_tup pa_nil) (pa_cons (pe_un un_neg pe_int) (pa_cons (pv 2) (pa_cons (pe_op op_add (pv 2) pe_int) (pa_cons pe_int (pa_cons (pe_tup (pa_cons pe_str (pa_cons pe_str (pa_cons pe_str (pa_cons pe_str pa_nil))))) (pa_cons pe_bl (pa_cons pe_bl (pa_cons pe_bl pa_nil)))))))))))))))))
      (pss_cons (ps_if (PW.pt (pw_and (pt_cmpR (op_neD hr.units) (pv 3) (pe_lst pa_nil) (nomark _)) (pw_and1 (pt_cmpR op_gt (pe_fn F_law_draw (hr.mono (by decide)) (pa_cons (pv 0) (pa_cons pe_int pa_nil))) pe_int (nomark _)))))
        (pss_one (ps_ret (pe_fn F_law_of (hr.mono (by decide)) (pa_cons (pv 0) (pa_cons (pv 3) pa_nil)))))
        pss_nil)
      (pss_one (ps_ret (pe_fn F_law_of (hr.mono (by decide)) (pa_cons (pv 0) (pa_cons (pv 6) pa_nil)))))))), ?_⟩
    show (_ : TS) _ [some _, some _, some _, none, none, none, none] _
    try dsimp only [cxOf, Cx.nox]
    walk_at "go"
    refine ⟨_, rfl, by omega, by omega, fun D hD => ?_⟩
    have hpD : p ≠ D := ne_of_none hp hD
    have hlen := hvs.1
    have hgl := g.len
    refine r_lcR (n := n) (fun i H1 => ∃ gs : List Int, H1 D = some (.lst (gs.map V.int)) ∧ gs.length ≤ i ∧ (∀ x ∈ gs, gv c x = none) ∧ Ext [] H H1) ⟨[], upd_same, Nat.le_refl _, (fun x hx => by cases hx), Ext.refl.new hD⟩ ?_ ?_
    · rintro i H1 hi ⟨gs, q1, q2, q3, q4⟩
      have hp1 := q4 _ _ hp List.not_mem_nil
      walk_at "go"
      refine ⟨rfl, ?_⟩
      walk_at "go"
      refine ⟨p, rfl, ⟨vs, .inl (.inl hp1)⟩, fun D2 hD2 => ?_⟩
      refine r_lcL (xs := vs) (fun j H2 => H2 D2 = some (.lst ((c.take j).map fun q => V.int q.1)) ∧ Ext [] H1 H2) ⟨upd_same, Ext.refl.new hD2⟩ (fun j H2 hj z => .inl (.inl (z.2 _ _ hp1 List.not_mem_nil))) ?_ ?_
      · rintro j y H2 hy ⟨z1, z2⟩
        obtain ⟨⟨kk, x⟩, hq, hx⟩ := (hvs.t g (ExtT.of (q4.trans z2)) (fun _ z => nomatch z)).at_ hy
        obtain ⟨ya, u, w', t, ch, wd, rfl, hs, _⟩ := lt_tup hx (g.ok _ (List.mem_of_getElem? hq)).2.2
        walk_at "go"
        refine ⟨rfl, ?_⟩
        walk_at "go"
        have hj : j < vs.length := (List.getElem?_eq_some_iff.mp hy).1
        refine ⟨_, z1, ?_, ?_, z2.own hD2⟩
        · rw [List.length_map, List.length_take]
          exact Nat.lt_of_le_of_lt (by omega : min j c.length ≤ 4000) (by decide)
        · rw [List.take_succ, hq, List.map_append]
          exact upd_same
      · rintro H2 ⟨z1, z2⟩
        rw [hlen, List.take_length] at z1
        refine ⟨D2, _, rfl, .inl (.inl (.inl z1)), rfl, by rw [List.all_map]; exact List.all_eq_true.mpr (fun _ _ => rfl), _, rfl, ?_⟩
        rw [if_pos rfl, in_nums]
        have hD2' := z2 _ _ q1 List.not_mem_nil
        cases hg : gv c (0 + (i : Int)) with
        | none =>
          rw [if_pos (by rfl)]
          walk_at "go"
          refine ⟨_, hD2', by rw [List.length_map]; exact Nat.lt_of_le_of_lt (by omega : gs.length ≤ 4000) (by decide), gs ++ [0 + (i : Int)], by rw [List.map_append]; exact upd_same, by rw [List.length_append]; exact Nat.add_le_add_right q2 1, fun x hx => ?_, (q4.trans z2).own hD⟩
          rcases List.mem_append.mp hx with hx | hx
          · exact q3 x hx
          · rw [List.mem_singleton.mp hx]; exact hg
        | some y =>
          rw [if_neg (by simp)]
          exact ⟨gs, hD2', by omega, q3, q4.trans z2⟩
    · rintro H1 ⟨gs, q1, q2, q3, q4⟩
      walk_at "go"
      rename_i p1 k1 p2 k2 p3 k3 p4 k4 p5 k5 p6 k6 p7 k7
      have nb : ∀ {G : Hp} {x : Addr}, Ext [] H G → G x = none → x ∉ [b.a] := fun e hx z => by
        obtain ⟨l0, h0⟩ := hb.lst
        have := e _ _ h0 List.not_mem_nil
        rw [List.mem_singleton.mp z, this] at hx
        cases hx
      have n1 := nb q4 k1
      have n2 := nb (q4.new k1) k2
      have n6 := nb (((((q4.new k1).new k2).new k3).new k4).new k5) k6
      have nD := nb (Ext.refl (H := H)) hD
      generalize hG : upd _ p6 _ = H2
      have e2 : Ext [] H1 H2 := by rw [← hG]; exact ((((Ext.refl.new k1).new k2).new k3).new k4).new k5 |>.new k6
      rw [hG] at k7
      have hds : DqAll K [b.a] H2 [V.non, V.str "0", V.str "", V.ref p1, V.ref p2, V.ref p3, V.ref p4, V.int (-1), V.int (n : Int), V.int ((n : Int) + 1), V.int 999999999, V.ref p5, V.bl true, V.bl false, V.bl true] (strD n) := by
        rw [← hG]
        refine .cons .non (.cons (.str _) (.cons (.str _) (.cons (.lst n1 (xs := []) ?_ .nil) (.cons (.lst n2 (xs := [V.int 0]) ?_ (.cons (.int _) .nil)) (.cons (.tup (xs := [V.int 0]) ?_ (.cons (.int _) .nil)) (.cons (.tup (xs := []) ?_ .nil) (.cons (.int _) (.cons (.int _) (.cons (.int _) (.cons (.int _) (.cons (.tup (xs := [.str "level", .str "a", .str "b", .str ""]) ?_ (.cons (.str _) (.cons (.str _) (.cons (.str _) (.cons (.str _) .nil))))) (.cons (.bl _) (.cons (.bl _) (.cons (.bl _) .nil)))))))))))))) <;> walk_at "sq"
      have h6 : H2 p6 = some (.lst [V.non, V.str "0", V.str "", V.ref p1, V.ref p2, V.ref p3, V.ref p4, V.int (-1), V.int (n : Int), V.int ((n : Int) + 1), V.int 999999999, V.ref p5, V.bl true, V.bl false, V.bl true]) := by rw [← hG]; exact upd_same
      clear hG
      have hD2 := e2 _ _ q1 List.not_mem_nil
      have e7 : Ext [] H2 (upd H2 p7 (.lst [])) := Ext.refl.new k7
      refine ⟨_, _, .lst (.inl (.inl (e7 _ _ hD2 List.not_mem_nil))) (ints_dp gs), .lst (.inl (.inl upd_same)) .nil, ints_shaped gs, by decide +kernel, _, rfl, ?_⟩
      have b7 := hb.x0 (q4.trans (e2.trans e7))
      have e07 : Ext [] H (upd H2 p7 (.lst [])) := q4.trans (e2.trans e7)
      have hD7 := e7 _ _ hD2 List.not_mem_nil
      have h67 := e7 _ _ h6 List.not_mem_nil
      have hds7 := hds.x (e7.mono (T := []) fun _ z => z) (fun _ z => nomatch z) (fun _ z => nomatch z)
      generalize upd H2 p7 (.lst []) = H7 at *
      have fin : ∀ H8, BagAt K H8 b → Ext [b.a] H7 H8 → tRet (tR (spOf K) (tCons (tVar 0) (tCons (tVar 6) tNil))) { nx := fun x H' => Q V.non H', rt := Q } [some (V.ref b.a), some (V.ref p), some (V.int n), some (V.ref D), none, none, some (V.ref p6)] H8 := fun H8 b8 n8 => by
        walk_at "go"
        refine ⟨b, p6, _, rfl, b8, .inl (.inl (n8 _ _ h67 n6)), fun z => n6 (by rw [z]; simp), Nat.zero_lt_succ _, show 15 ≤ 4000 by decide, fun i x H9 hx b9 n9' => ?_⟩
        obtain ⟨d, hd, hv⟩ := DqAll.get (hds7.x n8 (fun _ z => z) fun z hz => by rw [List.mem_singleton.mp hz]; exact b7.lst) hx
        obtain ⟨g1, g2⟩ := strD_ok g n9 (List.mem_of_getElem? hd)
        exact k x d H9 ((hv.x n9' (fun _ z => z) fun z hz => by rw [List.mem_singleton.mp hz]; exact b8.lst).dp) g1 g2 b9 ((e07.mono fun _ z => nomatch z).trans (n8.trans n9'))
      cases gs with
      | nil =>
        rw [if_neg (by simp [PyData.eqv, PyData.eqvAll])]
        rw [if_neg (by simp)]
        exact fin H7 b7 Ext.refl
      | cons g0 gs =>
        rw [if_pos (by simp [PyData.eqv, PyData.eqvAll])]
        walk_at "go"
        refine k_draw b7 (by decide) (by decide) fun x H8 _ _ b8 n8 => ?_
        walk_at "go"
        refine r_dec (fun hz => ?_) (fun hz => ?_)
        · walk_at "go"
          refine of_intN (ns := g0 :: gs) b8 (.inl (.inl (n8 _ _ hD7 nD))) (fun z => nD (by rw [z]; simp)) (Nat.zero_lt_succ _) (by omega) fun y H9 hy b9 n9' => ?_
          exact k _ _ H9 (.int y) (by show (gv c y).isSome = false; rw [q3 y hy]; rfl) rfl b9 ((e07.mono fun _ z => nomatch z).trans (n8.trans n9'))
        · exact fin H8 b8 n8
end
end Yk

set_option maxHeartbeats 1000000
/-! sorted(xs, key=lambda x: x[0]) of tuples whose first items rise already. -/
namespace Yk
open PySem PySem.Spec PySem.Calls PyProof.Rows L2 LamX
/-- x[0] -/
abbrev keyB (x : Str) (j : Nat) (p1 p2 p3 : Pos) : Expr := .Subscript (.Name x p1) (.Constant (.int 0) j p2) p3
/-- a lambda of one name, which captures nothing -/
structure Lam1 (x : Str) (scope : Scope) : Prop where
  kind : scope.kind = .function
  co : scope.isCoroutine = false
  gen : scope.isGenerator = false
  own : scope.names.lookup x = some .local
  cell : ∀ y ∈ scope.names, y.2 ≠ .cell
  free : ∀ y ∈ scope.names, y.2 ≠ .free
def lam1B (x : Str) (scope : Scope) : Bool := decide (scope.kind = .function) && !scope.isCoroutine && !scope.isGenerator && decide (scope.names.lookup x = some .local) && scope.names.all fun y => !decide (y.2 = .cell) && !decide (y.2 = .free)
theorem lam1_by {x : Str} {scope : Scope} (h : lam1B x scope = true) : Lam1 x scope := by
  unfold lam1B at h
  simp only [Bool.and_eq_true, Bool.not_eq_true', decide_eq_true_eq, decide_eq_false_iff_not, List.all_eq_true] at h
  obtain ⟨⟨⟨⟨h1, h2⟩, h3⟩, h4⟩, h5⟩ := h
  exact ⟨h1, h2, h3, h4, fun y hy => (h5 y hy).1, fun y hy => (h5 y hy).2⟩
theorem key_call {prog : Program} {w : World} {A : Around} {s : Shared} {f c' t : Addr} {q x : Str} {params : Arguments} {scope : Scope} {pm ctv : Value} {j : Nat} {p1 p2 p3 : Pos} {items : Array Value} {k : Int} {tok : Tok} (hd : A.depth < recursionLimit) (lim : s.heap.NoLimit) (L : Lam1 x scope)
    (ho : s.heap.get? f = some (PySem.W.kla_obj "<lambda>" q params (keyB x j p1 p2 p3) scope [] pm c' ctv)) (hc : ∃ (oc : Obj) (vs : Array Value) (t : Tok), s.heap.get? c' = some oc ∧ oc.data = .fields vs ∧ vs[1]? = some (.str q t))
    (hbind : bindArgs (PySem.W.kla_fn "<lambda>" q params (keyB x j p1 p2 p3) scope [] pm (.ref c') ctv) ⟨[.ref t], []⟩ = pure [(x, .ref t)]) (it : IsTup s.heap t items) (h0 : items[0]? = some (.int k tok)) (hdb : (x == ("__debug__" : Str)) = false := by decide) :
    wpAny (model prog w) A (call (.ref f) [.ref t]) (PySem.W.KeyPure (.int k) s) (fun _ _ => False) s := by
  obtain ⟨oc, vs, tq, hoc, hdc, hvc⟩ := hc
  refine wpAny_call (PySem.W.kla_callFunE hd ho rfl L.co L.gen rfl ⟨c', oc, vs, tq, rfl, hoc, hdc, hvc⟩ ?_)
  rw [hbind]
  refine wpAny_pure (wpAny_newFunctionEnv L.cell (fun y hy => by rw [List.mem_singleton.mp hy]; exact L.own) (fun h₁ hns hsb => ⟨lim.fresh _ hsb, ?_⟩) L.kind)
  have kp : ∀ b o, s.heap.get? b = some o → h₁.get? b = some o := fun b o e => hsb.extBut b o (Nat.ne_of_lt (Heap.lt_size e)) (Heap.get?_push_of_some _ e)
  show codeAny _ _ (.expr (keyB x j p1 p2 p3) (PySem.W.envX q scope s.heap.objs.size f (.ref c') [])) _ _
  refine PySem.W.kla_codeExpr ?_
  refine Subscript_ (wpAny_Name (wpAny_loadName_local (m := fun y => [(x, Value.ref t)].reverse.lookup y) (v := .ref t) L.kind L.own hns (by simp [List.lookup]) ?_) hdb)
  refine wpAny_Constant_int ?_
  have it' : IsTup h₁ t items := it.keeps kp
  have lt : 0 < items.size := (Array.getElem?_eq_some_iff.mp h0).1
  refine subscriptTail_builtinR (x := .int k tok) it'.typeIs slot_tuple_getitem.lookup (getItem_tuple (j := 0) it' (by decide) (by decide) ?_ h0 ⟨rfl, ?_⟩)
  · exact PySem.StrLaws.seqIndex_nonneg (by decide) (by exact_mod_cast lt)
  · exact ⟨h₁, _, rfl, kp, .int k tok⟩
/-- the items are tuples that begin with these numbers -/
def KeysAre (K : PySem.W.Frag) (H : Hp) (xs : List V) (ks : List Int) : Prop := xs.length = ks.length ∧ ∀ (i : Nat) v k, xs[i]? = some v → ks[i]? = some k → ∃ t tl, v = .ref t ∧ SqT K H t (.int k :: tl)
def tSortL (K : PySem.W.Frag) (T : List (Addr × Str)) (tx : TE) : TE := fun σ H Q => tx σ H fun v H1 => Tabs T H1 ∧ ∀ H2, ExtN H1 H2 → Tabs T H2 → ∃ a xs ks, v = .ref a ∧ SqL K H2 a xs ∧ KeysAre K H2 xs ks ∧ ks.Pairwise (· ≤ ·) ∧
  ∀ p, H2 p = none → Q (.ref p) (upd H2 p (.lst xs))
theorem each_rel {xs : List V} {us : List Value} {ks : List Int} {R : Value → V × Int → Prop} (r : Vals xs us) (hl : xs.length = ks.length) (h : ∀ (i : Nat) v u k, xs[i]? = some v → us[i]? = some u → ks[i]? = some k → R u (v, k)) : PySem.W.EachIs R us (xs.zip ks) := by
  induction r generalizing ks with
  | nil => exact .nil
  | cons r1 r2 ih =>
    cases ks with
    | nil => cases hl
    | cons k ks =>
      exact .cons (h 0 _ _ _ rfl rfl rfl) (ih (by simpa using hl) fun i v u k' a b c => h (i + 1) v u k' a b c)
theorem vals_of_each {xs : List V} {us : List Value} {ks : List Int} (hl : xs.length = ks.length) (h : PySem.W.EachIs (fun (u : Value) (b : V × Int) => RelV b.1 u) us (xs.zip ks)) : Vals xs us := by
  induction xs generalizing us ks with
  | nil => cases h; exact .nil
  | cons v xs ih =>
    cases ks with
    | nil => cases hl
    | cons k ks =>
      cases h with
      | cons h1 h2 => exact .cons h1 (ih (by simpa using hl) h2)
section
variable {X : Cx}
theorem pe_sortL {T : List (Addr × Str)} {c P : Addr} {k j : Nat} {x : Str} {params : Arguments} {scope : Scope} {e : Expr} {tx : TE} {p lpos kpos pos p1 p2 p3 : Pos} (hg : Gl X "sorted") (hm : X.mg "sorted" = none) (he : PE X e tx)
    (TB : TabB X.base X.mg c P) (hcode : X.env.code = .ref c) (hmT : (P, X.env.qual ++ "<lambda>") ∈ T) (hu : ∀ p ∈ T, p.1 = P → p.2 = X.env.qual ++ "<lambda>") (hr : Room (k + 1) X.A) (L : Lam1 x scope) (hdef : defaultsOf params X.env = ([], []))
    (hbind : ∀ (q : Str) (pm cv ctv u : Value), bindArgs (PySem.W.kla_fn "<lambda>" q params (keyB x j p1 p2 p3) scope [] pm cv ctv) ⟨[u], []⟩ = pure [(x, u)]) (hcl : cloFrom X.env.cells scope.names [] = []) (hdb : (x == ("__debug__" : Str)) = false := by decide)
    (hst : backTo pos (starEach [e] X.env) = (false, eval e X.env) :: backTo pos (starEach [] X.env) := by rfl) (hpl : (backTo pos (starEach [e] X.env)).any (·.1) = false := by rfl) :
    PE X (.Call (.Name "sorted" p) [e] [⟨some "key", .Lambda params (keyB x j p1 p2 p3) scope lpos, kpos⟩] pos) (tSortL X.K T tx) := by
  refine ⟨fun pins s σ H Q I h => ?_⟩
  refine wpAny_Call_Name_kw (ld_blt I hg hm PyProof.Rows.boot_sorted ?_)
  refine PyProof.Rows.callWith_kw ?_ hst hpl (by rfl) (by rfl)
  rw [hst]
  refine spliced_cons (thn (he.run pins s σ H _ I h) fun u s1 ⟨v, H1, I1, r1, hT, q1⟩ => ?_)
  refine spliced_nil ?_
  show wpAny _ _ (evalAll [(do let v ← eval (.Lambda params (keyB x j p1 p2 p3) scope lpos) X.env; standAt pos; pure v)]) _ _ s1
  refine wpAny_evalAll_cons (wpAny_bind (lam_make2 I1 TB hcode hmT hu hT hdef (fun y hy z => absurd z (L.free y hy)) fun f c' pm ctv H2 s2 I2 eN T2 hf hfn hfr hco => wpAny_bind (wpAny_standAt (wpAny_pure ?_))))
  refine wpAny_evalAll_nil ?_
  show wpAny _ _ (call (.builtin "sorted") [u] [("key", .ref f)]) _ _ s2
  obtain ⟨a, xs, ks, rfl, ha, hk, hpw, q⟩ := q1 H2 eN T2
  cases r1
  obtain ⟨its, rv, hl, hz⟩ := I2.list ha
  have lxs := rv.length
  obtain ⟨lk, hk⟩ := hk
  have lz : (xs.zip ks).length = xs.length := by rw [List.length_zip]; omega
  have hf2 := hf
  rw [hcl] at hf2
  obtain ⟨oc, vs, t0, hoc, hdc, hvc⟩ := (I2.hok c' _ hco).1
  have hit : PySem.W.EachIs (fun (u : Value) (b : V × Int) => RelV b.1 u ∧ ∃ t items tok, u = .ref t ∧ IsTup s2.heap t items ∧ items[0]? = some (.int b.2 tok)) its (xs.zip ks) := each_rel rv lk fun i v u k e1 e2 e3 => by
    obtain ⟨t, tl, rfl, ht⟩ := hk i v k e1 e3
    obtain ⟨u', e4, r4⟩ := rv.get e1
    rw [e2] at e4
    cases e4
    cases r4
    obtain ⟨its2, r2, p2, _⟩ := I2.tuple ht
    cases r2 with
    | cons r5 r6 =>
      obtain ⟨tok, rfl⟩ := r5
      exact ⟨rfl, t, _, tok, rfl, p2, rfl⟩
  refine PySem.W.sorted_key_data (b := false) (kw := [("key", .ref f)]) (k := fun b : V × Int => .int b.2) hl.isList hit (fun d hd d' hd' => ?_) (.inr fun d hd => ?_) (by rw [lz]; exact hz) (fun b _ => ?_) (PyProof.Rows.ksk_s1 _ _) (fun _ => PyProof.Rows.ksk_l1 _ _) (fun _ => PyProof.Rows.ksk_t1 _ _) (fun v b hR _ h tk kp => ?_) fun out c0 h' tk kp hfree hob hlo hE => ?_
  · obtain ⟨b, _, rfl⟩ := List.mem_map.mp hd
    obtain ⟨b', _, rfl⟩ := List.mem_map.mp hd'
    rfl
  · obtain ⟨b, _, rfl⟩ := List.mem_map.mp hd
    exact ⟨(fun z => nomatch z), (fun _ z => nomatch z)⟩
  · have := hr.un
    show X.A.units + 2 + (PyData.int b.2).depth < cLine
    have : (PyData.int b.2).depth ≤ 1 := by simp [PyData.depth]
    omega
  · obtain ⟨_, t, items, tok, rfl, it, h0⟩ := hR
    exact key_call (s := { s2 with heap := h, toks := tk }) (x := x) (by have := hr.dp; show X.A.depth < _; omega) (I2.nolimit.keeps kp) L (kp _ _ hf2) ⟨oc, vs, t0, kp _ _ hoc, hdc, hvc⟩ (hbind _ _ _ _ _) (it.keeps kp) h0 hdb
  · rw [PySem.W.dataLe_int, List.mergeSort_of_pairwise ?_] at hE
    · have rv2 : Vals xs out := vals_of_each lk (hE.mono fun _ _ z => z.1)
      exact ⟨.ref _, upd H2 (s2.heap.objs.size + 1) (.lst xs), I2.laid (t' := tk) kp (Nat.le_succ _) ⟨hz, out, c0, rv2, hob⟩, rfl, q _ (I2.hok.fresh (Nat.le_succ _))⟩
    · rw [List.pairwise_iff_getElem]
      intro i j hi hj hij
      simp only [List.getElem_zip, decide_eq_true_eq]
      exact (List.pairwise_iff_getElem.mp hpw) i j _ _ hij
end
/-- a def whose code object is known -/
theorem fn_defC {P : Program} {w : World} {K : PySem.W.Frag} {mg : Str → Option Value} {base : Heap} {x : Str} {params : Arguments} {body : List Stmt} {scope : Scope} {f c : Addr} {fd : FuncData} {N ps : List Str} {k : Nat} {sp : Sp}
    (F : FunD K x x params body scope [] [] f fd) (hm : mg x = some (.ref f)) (hc : fd.code = .ref c) (S : FnScope N ps scope) (len : ∀ vs H Q E, sp vs H Q E → vs.length = ps.length)
    (hb : ∀ (kV doc pm : Value) (an : Option Addr) (cdv ct : Value) (us : List Value), us.length = ps.length → bindArgs (PySem.W.fnOf x x params body scope .none kV doc pm an cdv ct) ⟨us, []⟩ = pure (ps.zip us))
    (hbody : ∀ (A : Around) (outer : List Env) (s : Shared) (H : Hp) (vs : List V) (Q : VK) (E : XK), Room k (A.deeper (envOfC x scope s.heap.objs.size f (.ref c))) → sp vs H Q E →
      ∃ t, PSs (cxOf CX0 P w K mg base N x scope f (.ref c) A outer s H E).nox body t ∧ t ⟨fun _ H' => Q .non H', Q, fun _ _ => False, fun _ _ => False⟩ (start N vs) H) : Fn P w K mg base (k + 1) x sp := by
  have G : FnOk P w K mg base CX0 (k + 1) f fd ps sp := by
    obtain ⟨a1, a2, a3, a4, a5, a6, a7, cdv, a9, a10, e, lk, hcd, _⟩ := F.ex
    subst e
    obtain rfl : cdv = .ref c := hc
    exact fn_of lk hcd S len fun A outer s H vs Q E hr h => by
      obtain ⟨t, h1, h2⟩ := hbody A outer s H vs Q E hr h
      exact ⟨t, h1.nox, h2⟩
  have R := G.raw (F.bindsN hb) .nil
  refine ⟨f, hm, F.kp, R.imp fun vs H Q E h => ?_⟩
  rw [List.append_nil]
  exact h
theorem r_sortL {K : PySem.W.Frag} {T : List (Addr × Str)} {tx : TE} {σ : L2.St} {H : Hp} {Q : VK} (h : tx σ H fun v H1 => Tabs T H1 ∧ ∀ H2, ExtN H1 H2 → Tabs T H2 → ∃ a xs ks, v = .ref a ∧ SqL K H2 a xs ∧ KeysAre K H2 xs ks ∧ ks.Pairwise (· ≤ ·) ∧
  ∀ p, H2 p = none → Q (.ref p) (upd H2 p (.lst xs))) : tSortL K T tx σ H Q := h
abbrev CT (P0 : Addr) : List (Addr × Str) := [(P0, ("_law_extras" : Str) ++ ".<locals>." ++ "<lambda>")]
theorem tupE {K : PySem.W.Frag} {H H1 : Hp} {a : Addr} {xs : List V} (e : ExtN H H1) (h : SqT K H a xs) : SqT K H1 a xs := by
  rcases h with (h | ⟨o, h⟩) | h
  · exact .inl (.inl (e _ _ h fun _ z => nomatch z))
  · exact .inl (.inr ⟨o, e _ _ h fun _ z => nomatch z⟩)
  · exact .inr h
theorem lstE {K : PySem.W.Frag} {H H1 : Hp} {a : Addr} {xs : List V} (e : ExtN H H1) (h : SqL K H a xs) : SqL K H1 a xs := by
  rcases h with (h | ⟨o, h⟩) | h
  · exact .inl (.inl (e _ _ h fun _ z => nomatch z))
  · exact .inl (.inr ⟨o, e _ _ h fun _ z => nomatch z⟩)
  · exact .inr h
end Yk

set_option maxHeartbeats 8000000
namespace Yk
open PySem PySem.Spec PyProof.Rows L2 L2H LamX

local macro_rules | `(tactic| walk_at "st") => `(tactic| first
  | with_reducible refine' r_tAt ?_
  | ((with_reducible refine' r_fld ?h1 ?h2 ?h3); (case h1 => first | assumption | exact upd_same); (case h2 => first | walk_at "lk" | rfl))
  | with_reducible refine' r_sAt ?_
  | ((with_reducible refine' r_putU ?h1 ?h2); (case h1 => (repeat refine putF_lt ?_); decide))
  | ((with_reducible refine' r_put ?h1 ?h2 ?h3); (case h1 => first | assumption | exact upd_same); (case h2 => (repeat refine putF_lt ?_); decide))
  | with_reducible refine' r_tMt ?_
  | ((with_reducible refine' r_met ?h1 ?h2 ?h3); (case h1 => first | assumption | exact upd_same); (case h2 => first | walk_at "lk" | rfl))
  | with_reducible refine' r_tCr ?_
  | with_reducible refine' r_tCrK ?_
  | with_reducible refine' r_chain ?_)
local macro_rules | `(tactic| walk_at "st") => `(tactic| first
  | with_reducible refine' r_dget ?_
  | with_reducible refine' r_dc ?_
  | with_reducible refine' r_iVals ?_
  | with_reducible refine' r_dnotin ?_
  | with_reducible refine' r_din ?_
  | with_reducible refine' r_iItems ?_
  | with_reducible refine' r_iKeysT ?_
  | with_reducible refine' r_tget1 ?_
  | with_reducible refine' r_tget2 ?_
  | with_reducible refine' r_dput ?_
  | with_reducible refine' r_tPr ?_
  | ((with_reducible refine' r_prp2 ?h1 ?h2); (case h1 => first | assumption | exact upd_same))
  | with_reducible refine' r_par3 ?_
  | ((with_reducible refine' r_dnT ?_); (intro np hnp))
  | ((with_reducible refine' r_dnK ?_); (intro np hnp)))
/-! A deed. -/
abbrev CTd (P0 : Addr) : List (Addr × Str) := [(P0, ("_law_deed" : Str) ++ ".<locals>." ++ "<lambda>")]
theorem r_tLamP {T : List (Addr × Str)} {TT : (XK → V → Hp → VK → Prop) → V → Hp → VK → Prop} {t : XK → TE} {t2 : TA} {σ : L2.St} {H : Hp} {Q : VK} (h0 : Tabs T H) (h : ∀ H1, ExtN H H1 → Tabs T H1 → t2 σ H1 fun vs H2 => ∃ v2, vs = [v2] ∧ H2 = H1 ∧ TT (fun E v H' Q' => t E (σ ++ [some v]) H' Q') v2 H2 Q) : tLamP T TT t t2 σ H Q := ⟨h0, h⟩
local macro_rules | `(tactic| walk_at "lk") => `(tactic| first | with_reducible exact lk_Lb_letters | with_reducible exact lk_Lb_coming | exact lk_Lb_no (by decide +kernel) (by decide +kernel))
local macro_rules | `(tactic| walk_at "st") => `(tactic| first | with_reducible refine' r_tMtX ?_)
structure Sd where
  sd : Addr
  a : Addr
  d : Addr
  p : Addr
def Sd.own (s : Sd) : List Addr := [s.sd, s.a, s.d, s.p]
/-- a side: the bag, the rows, the count -/
structure SideAt (cB : Addr) (K : PySem.W.Frag) (H : Hp) (s : Sd) (c : List (Int × PyData)) (n : Nat) : Prop where
  lst : H s.sd = some (.lst [.ref s.a, .ref s.p, .int (n : Int)])
  bag : LbAt cB K H s.d s.a c n
  rows : RowsAt K H s.p c
section
variable {cB : Addr} {K : PySem.W.Frag} {H H1 : Hp} {S : List Addr} {c : List (Int × PyData)} {n : Nat} {s : Sd}
theorem SideAt.t (h : SideAt cB K H s c n) (g : GoodL c n) (e : ExtT S H H1) (nt : NoTup H S) (hs : ∀ x ∈ s.own, x ∉ S) : SideAt cB K H1 s c n :=
  ⟨e _ _ h.lst (hs _ (by simp [Sd.own])) fun _ z => (nomatch z), h.bag.t g e nt (hs _ (by simp [Sd.own])) (hs _ (by simp [Sd.own])), h.rows.t g e nt (hs _ (by simp [Sd.own]))⟩
theorem SideAt.nt (h : SideAt cB K H s c n) : NoTup H s.own := by
  obtain ⟨dx, l, h1, h2, _⟩ := h.bag
  obtain ⟨vs, h3, _⟩ := h.rows
  intro x hx
  simp only [Sd.own, List.mem_cons, List.not_mem_nil, or_false] at hx
  rcases hx with rfl | rfl | rfl | rfl
  · exact ⟨_, h.lst, (fun _ z => nomatch z), fun _ _ z => nomatch z⟩
  · exact ⟨_, h1, (fun _ z => nomatch z), fun _ _ z => nomatch z⟩
  · exact ⟨_, h2, (fun _ z => nomatch z), fun _ _ z => nomatch z⟩
  · exact ⟨_, h3, (fun _ z => nomatch z), fun _ _ z => nomatch z⟩
end
theorem tt_key {tt : TT} {σ : L2.St} {H : Hp} {Q : Bool → Hp → Prop} (Pv : Bool → Hp → Prop) (key : ∀ b H3, Pv b H3 → Q b H3) (h : ∀ Q' : Bool → Hp → Prop, (∀ b H3, Pv b H3 → Q' b H3) → tt σ H Q') : tt σ H Q := h Q key
theorem Tabs.bg {K : PySem.W.Frag} {H H1 : Hp} {T : List (Addr × Str)} {b : Bag} (hb : BagAt K H b) (e : Ext [b.a] H H1) (t : Tabs T H) : Tabs T H1 := fun p hp => by
  obtain ⟨l, hl⟩ := hb.lst
  obtain ⟨ps, h1, h2, h3⟩ := t p hp
  refine ⟨ps, e _ _ h1 fun z => ?_, h2, fun pos cv hc => ?_⟩
  · rw [List.mem_singleton.mp z, hl] at h1
    cases h1
  · obtain ⟨c, e1, e2⟩ := h3 pos cv hc
    refine ⟨c, e1, e _ _ e2 fun z => ?_⟩
    rw [List.mem_singleton.mp z, hl] at e2
    unfold CodeO at e2
    cases e2
theorem Tabs.keep {H H1 : Hp} {T : List (Addr × Str)} {S : List Addr} (hs : ∀ x ∈ S, ∃ o, H x = some o ∧ (∀ ps, o ≠ .tbl ps) ∧ ∀ q, o ≠ CodeO x q) (e : Ext S H H1) (t : Tabs T H) : Tabs T H1 := fun p hp => by
  obtain ⟨ps, h1, h2, h3⟩ := t p hp
  refine ⟨ps, e _ _ h1 fun z => ?_, h2, fun pos cv hc => ?_⟩
  · obtain ⟨o, q, n, _⟩ := hs _ z
    rw [q] at h1
    cases h1
    exact n _ rfl
  · obtain ⟨c, e1, e2⟩ := h3 pos cv hc
    refine ⟨c, e1, e _ _ e2 fun z => ?_⟩
    obtain ⟨o, q, _, n⟩ := hs _ z
    rw [q] at e2
    cases e2
    exact n _ rfl
theorem SideAt.bg {cB : Addr} {K : PySem.W.Frag} {H H1 : Hp} {c : List (Int × PyData)} {n : Nat} {s : Sd} {b : Bag} (h : SideAt cB K H s c n) (hb : BagAt K H b) (g : GoodL c n) (e : Ext [b.a] H H1) (nd : (b.a :: s.own).Nodup) : SideAt cB K H1 s c n :=
  h.t g (ExtT.of e) (bag_nt hb) fun x hx z => (List.nodup_cons.mp nd).1 (by rw [← List.mem_singleton.mp z]; exact hx)
section
variable {K : PySem.W.Frag} {H H1 : Hp}
mutual
theorem dpN (e : ExtN H H1) : ∀ {v : V} {d : PyData}, Dp K H v d → Dp K H1 v d
  | _, _, .non => .non
  | _, _, .bl b => .bl b
  | _, _, .int i => .int i
  | _, _, .str z => .str z
  | _, _, .lst h g => .lst (lstE e h) (dpAllN e g)
  | _, _, .tup h g => .tup (tupE e h) (dpAllN e g)
theorem dpAllN (e : ExtN H H1) : ∀ {vs : List V} {ds : List PyData}, DpAll K H vs ds → DpAll K H1 vs ds
  | _, _, .nil => .nil
  | _, _, .cons h g => .cons (dpN e h) (dpAllN e g)
end
theorem extN_of (e : Ext [] H H1) : ExtN H H1 := fun b o h _ => e b o h List.not_mem_nil
theorem BagAt.e {b : Bag} (e : ExtN H H1) (h : BagAt K H b) : BagAt K H1 b := by
  obtain ⟨l, h1, h2, h3, h4⟩ := h.ex
  exact ⟨l, e _ _ h1 (fun _ z => nomatch z), lstE e h2, h3, h4⟩
end
theorem rows_dp {K : PySem.W.Frag} {H : Hp} : ∀ {vs : List V} {c : List (Int × PyData)}, LtAll K H vs c → DpAll K H vs (c.map (·.2))
  | [], [], _ => .nil
  | v :: vs, p :: c, h => by
    refine .cons (h.2 0 v p rfl rfl).1 (rows_dp ⟨by have := h.1; simp at this; exact this, fun i v q a b => h.2 (i + 1) v q a b⟩)
  | [], _ :: _, h => by have := h.1; simp at this
  | _ :: _, [], h => by have := h.1; simp at this
theorem rows_lay : ∀ {c : List (Int × PyData)} , (∀ p ∈ c, IsL p.1 p.2) → PyData.canLayAll0 (c.map (·.2)) = true ∧ PyData.depthAll (c.map (·.2)) ≤ 3 ∧ lenOkAll (c.map (·.2)) = true ∧ PyData.plainAll (c.map (·.2)) = true
  | [], _ => ⟨by simp [PyData.canLayAll0], by simp [PyData.depthAll], by simp [lenOkAll], by simp [PyData.plainAll]⟩
  | p :: c, h => by
    have a := let_ok (h p List.mem_cons_self)
    have b := rows_lay fun q hq => h q (List.mem_cons_of_mem _ hq)
    have ad := a.dep
    refine ⟨by simp [PyData.canLayAll0, a.lay, b.1], ?_, by simp [lenOkAll, a.len, b.2.2.1], by simp [PyData.plainAll, PyData.plain_of_canLay0 _ a.lay, b.2.2.2]⟩
    simp only [List.map_cons, PyData.depthAll]
    omega
theorem GoodL.rows_shaped {c : List (Int × PyData)} {n : Nat} (g : GoodL c n) : SeqAt.shaped (.list (c.map (·.2))) = true := by
  have h := rows_lay fun p hp => (g.ok p hp).2.2
  have hd := h.2.1
  unfold SeqAt.shaped
  rw [Bool.and_eq_true_iff]
  exact ⟨by simpa [PyData.canLay0] using h.1, decide_eq_true (by simp only [PyData.depth]; omega)⟩
theorem nil_eqv {c : List (Int × PyData)} : PyData.eqv (.list (c.map (·.2))) (.list []) = decide (c = []) := by
  cases c with
  | nil => simp [PyData.eqv, PyData.eqvAll]
  | cons p c => simp [PyData.eqv, PyData.eqvAll]
theorem GoodL.snoc {c : List (Int × PyData)} {n : Nat} (g : GoodL c n) {x : PyData} (hx : IsL n x) : GoodL (c ++ [((n : Int), x)]) (n + 1) := by
  refine ⟨List.pairwise_append.mpr ⟨g.asc, List.pairwise_singleton _ _, fun p hp q hq => ?_⟩, fun p hp => ?_⟩
  · rw [List.mem_singleton.mp hq]
    exact (g.ok p hp).2.1
  · rcases List.mem_append.mp hp with hp | hp
    · have := g.ok p hp
      exact ⟨this.1, by omega, this.2.2⟩
    · rw [List.mem_singleton.mp hp]
      exact ⟨by simp, by simp; omega, hx⟩
theorem GoodL.gp {c : List (Int × PyData)} {n : Nat} (g : GoodL c n) (x : PyData) : gp c (n : Int) x = c ++ [((n : Int), x)] := gp_new x (gv_none_of fun p hp e => by have := g.ok p hp; omega)
theorem GoodL.drop {c : List (Int × PyData)} {n : Nat} (g : GoodL c n) (k : Int) : GoodL (gd c k) n := ⟨g.asc.filter _, fun p hp => g.ok p (List.mem_filter.mp hp).1⟩
theorem eqv_let {k k' : Int} {x x' : PyData} (h : IsL k x) (h' : IsL k' x') (e : PyData.eqv x x' = true) : k = k' := by
  obtain ⟨_, _, _, rfl, _⟩ := h
  obtain ⟨_, _, _, rfl, _⟩ := h'
  simp only [PyData.eqv, PyData.eqvAll, Bool.and_eq_true, beq_iff_eq] at e
  exact e.1
theorem gd_erase : ∀ {c : List (Int × PyData)} {i : Nat} {kk : Int} {x : PyData}, (c.Pairwise fun p q => p.1 < q.1) → c[i]? = some (kk, x) → gd c kk = c.eraseIdx i
  | [], _, _, _, _, h => by cases h
  | p :: c, 0, kk, x, a, h => by
    cases h
    have a' := (List.pairwise_cons.mp a).1
    unfold gd
    rw [List.filter_cons, if_neg (by simp), List.filter_eq_self.mpr]
    · rfl
    · intro q hq
      have := a' q hq
      exact decide_eq_true (by dsimp only at this; omega)
  | p :: c, i + 1, kk, x, a, h => by
    have h' : c[i]? = some (kk, x) := h
    have a' := (List.pairwise_cons.mp a).1 _ (List.mem_of_getElem? h')
    have ih := gd_erase (List.pairwise_cons.mp a).2 h'
    unfold gd at ih ⊢
    rw [List.filter_cons, if_pos (decide_eq_true (by dsimp only at a'; omega)), ih]
    rfl
theorem LtAll.erase {K : PySem.W.Frag} {H : Hp} {vs : List V} {c : List (Int × PyData)} (h : LtAll K H vs c) (i : Nat) : LtAll K H (vs.eraseIdx i) (c.eraseIdx i) := by
  refine ⟨by rw [List.length_eraseIdx, List.length_eraseIdx, h.1], fun j v q hv hq => ?_⟩
  rw [List.getElem?_eraseIdx] at hv hq
  split at hv
  · rename_i hj; rw [if_pos hj] at hq; exact h.2 _ v q hv hq
  · rename_i hj; rw [if_neg hj] at hq; exact h.2 _ v q hv hq
theorem place_of {c : List (Int × PyData)} {n : Nat} (g : GoodL c n) {i : Nat} {kk : Int} {x : PyData} (h : c[i]? = some (kk, x)) : SeqAt.dataPlace (c.map (·.2)) x = some i := by
  obtain ⟨hi, e⟩ := List.getElem?_eq_some_iff.mp h
  have hx := (g.ok _ (List.mem_of_getElem? h)).2.2
  refine List.findIdx?_eq_some_iff_getElem.mpr ⟨by rw [List.length_map]; exact hi, ?_, fun j hj z => ?_⟩
  · rw [List.getElem_map, e]
    exact SeqAt.eqv_refl _ (let_ok hx).lay
  · rw [List.getElem_map] at z
    have := eqv_let (g.ok _ (List.getElem_mem (by omega))).2.2 hx z
    have q := List.pairwise_iff_getElem.mp g.asc j i (by omega) hi hj
    rw [e] at q
    dsimp only at q this
    omega
/-- these were new when the bag stood -/
def BagO (K : PySem.W.Frag) (b : Bag) (S : List Addr) : Prop := ∃ H0, BagAt K H0 b ∧ ∀ x ∈ S, H0 x = none
theorem BagO.ne {K : PySem.W.Frag} {b : Bag} {S : List Addr} (h : BagO K b S) : b.a ∉ S := fun z => by
  obtain ⟨H0, h1, h2⟩ := h
  obtain ⟨l, hl⟩ := h1.lst
  rw [h2 _ z] at hl
  cases hl
theorem BagO.upd {K : PySem.W.Frag} {b : Bag} {S : List Addr} {H : Hp} {x : Addr} {o : HO} (h : BagO K b S) (hx : x ∈ S) (hb : BagAt K H b) : BagAt K (upd H x o) b := by
  obtain ⟨H0, h1, h2⟩ := h
  exact BagAt.own h1 (h2 x hx) hb
theorem deed_end {cB P0 : Addr} {K : PySem.W.Frag} {H6 H7 H8 : Hp} {b : Bag} {s : Sd} {c : List (Int × PyData)} {n : Nat} {x : PyData} {v : V} {vs : List V} (S6 : SideAt cB K H6 s c n) (g : GoodL c n) (nd : s.own.Nodup) (bo : BagO K b s.own) (b6 : BagAt K H6 b) (T6 : Tabs (CTd P0) H6)
    (e7 : Ext [s.a, s.d] H6 H7) (L7 : LbAt cB K H7 s.d s.a (gp c (n : Int) x) (n + 1)) (hx : IsL n x) (e8 : Ext [] H7 H8) (hv : Dp K H8 v x) (hp8 : H8 s.p = some (.lst vs)) (hvs : LtAll K H8 vs c) :
    ExtT (b.a :: s.own) H6 (upd (upd H8 s.p (.lst (vs ++ [v]))) s.sd (.lst [.ref s.a, .ref s.p, .int ((n : Int) + 1)])) ∧ BagAt K (upd (upd H8 s.p (.lst (vs ++ [v]))) s.sd (.lst [.ref s.a, .ref s.p, .int ((n : Int) + 1)])) b ∧
      SideAt cB K (upd (upd H8 s.p (.lst (vs ++ [v]))) s.sd (.lst [.ref s.a, .ref s.p, .int ((n : Int) + 1)])) s (c ++ [((n : Int), x)]) (n + 1) ∧ Tabs (CTd P0) (upd (upd H8 s.p (.lst (vs ++ [v]))) s.sd (.lst [.ref s.a, .ref s.p, .int ((n : Int) + 1)])) := by
  obtain ⟨dx, l, ha, hd, _⟩ := S6.bag
  obtain ⟨vs0, hp6, _⟩ := S6.rows
  have h6 := S6.lst
  simp only [Sd.own, List.nodup_cons, List.mem_cons, List.not_mem_nil, or_false, not_or] at nd
  obtain ⟨⟨n1, n2, n3⟩, ⟨n4, n5⟩, n6, _⟩ := nd
  have e68 : Ext [s.a, s.d] H6 H8 := e7.trans (e8.mono fun _ z => nomatch z)
  have h8 : H8 s.sd = some (.lst [.ref s.a, .ref s.p, .int (n : Int)]) := e68 _ _ h6 (by simp [n1, n2])
  have b8 : BagAt K H8 b := (b6.f e7 fun y hy => by
    rcases List.mem_cons.mp hy with rfl | hy
    · exact (no_ins ha).2 _ (by simp)
    · exact (no_dk hd).2 _ (by simpa using hy)).x0 e8
  have e9 : Ext [s.p, s.sd] H8 (upd (upd H8 s.p (.lst (vs ++ [v]))) s.sd (.lst [.ref s.a, .ref s.p, .int ((n : Int) + 1)])) := (Ext.refl.at_ (by simp)).at_ (by simp)
  have nt9 : NoTup H8 [s.p, s.sd] := fun y hy => by
    rcases List.mem_cons.mp hy with rfl | hy
    · exact no_lst hp8 _ (by simp)
    · exact no_lst h8 _ (by simpa using hy)
  have hp9 : upd (upd H8 s.p (.lst (vs ++ [v]))) s.sd (.lst [.ref s.a, .ref s.p, .int ((n : Int) + 1)]) s.p = some (.lst (vs ++ [v])) := by rw [upd_ne (Ne.symm n3), upd_same]
  have h9 : upd (upd H8 s.p (.lst (vs ++ [v]))) s.sd (.lst [.ref s.a, .ref s.p, .int ((n : Int) + 1)]) s.sd = some (.lst [.ref s.a, .ref s.p, .int ((n : Int) + 1)]) := upd_same
  have b9 : BagAt K (upd (upd H8 s.p (.lst (vs ++ [v]))) s.sd (.lst [.ref s.a, .ref s.p, .int ((n : Int) + 1)])) b := bo.upd (by simp [Sd.own]) (bo.upd (by simp [Sd.own]) b8)
  have e69 : Ext [s.a, s.d, s.p, s.sd] H6 (upd (upd H8 s.p (.lst (vs ++ [v]))) s.sd (.lst [.ref s.a, .ref s.p, .int ((n : Int) + 1)])) := (e68.mono (fun y hy => by simp at hy ⊢; rcases hy with z | z <;> simp [z])).trans (e9.mono fun y hy => by simp at hy ⊢; rcases hy with z | z <;> simp [z])
  generalize upd (upd H8 s.p (.lst (vs ++ [v]))) s.sd (.lst [.ref s.a, .ref s.p, .int ((n : Int) + 1)]) = H9 at *
  have g' := g.snoc hx
  have L8 : LbAt cB K H9 s.d s.a (c ++ [((n : Int), x)]) (n + 1) := by
    rw [← g.gp x]
    rw [← g.gp x] at g'
    exact (L7.t g' (ExtT.of e8) (fun _ z => nomatch z) List.not_mem_nil List.not_mem_nil).t g' (ExtT.of e9) nt9 (by simp; exact ⟨n5, Ne.symm n1⟩) (by simp; exact ⟨n6, Ne.symm n2⟩)
  refine ⟨(ExtT.of e69).mono fun y hy => by simp [Sd.own] at hy ⊢; rcases hy with z | z | z | z <;> simp [z], b9, ⟨by rw [h9]; rfl, L8, vs ++ [v], hp9, (hvs.t g (ExtT.of e9) nt9).app (.cons ⟨dpT (ExtT.of e9) nt9 hv (let_ok hx).nol, (let_ok hx).shaped⟩ .nil)⟩, Tabs.keep (fun y hy => ?_) e69 T6⟩
  simp only [List.mem_cons, List.not_mem_nil, or_false] at hy
  rcases hy with rfl | rfl | rfl | rfl
  · exact ⟨_, ha, (fun _ z => nomatch z), fun q z => by unfold CodeO at z; cases z⟩
  · exact ⟨_, hd, (fun _ z => nomatch z), fun q z => by unfold CodeO at z; cases z⟩
  · exact ⟨_, hp6, (fun _ z => nomatch z), fun q z => by unfold CodeO at z; cases z⟩
  · exact ⟨_, h6, (fun _ z => nomatch z), fun q z => by unfold CodeO at z; cases z⟩
section
variable {P : Program} {w : World} {K : PySem.W.Frag} {mg : Str → Option Value} {base : Heap} {f : Addr} {fd : FuncData}
def spDeed (cB P0 : Addr) (K : PySem.W.Frag) : Sp := fun vs H Q _ => ∃ (b : Bag) (s : Sd) (c : List (Int × PyData)) (n : Nat), vs = [.ref b.a, .ref s.sd] ∧ BagAt K H b ∧ SideAt cB K H s c n ∧ GoodL c n ∧ n ≤ 900 ∧ s.own.Nodup ∧ BagO K b s.own ∧ Tabs (CTd P0) H ∧
  ∀ c' n' H', ExtT (b.a :: s.own) H H' → BagAt K H' b → SideAt cB K H' s c' n' → GoodL c' n' → n' ≤ n + 1 → Tabs (CTd P0) H' → Q (.bl true) H'
abbrev s_law_deed : Stmt := top 19
theorem c_law_deed : FnScope ["_law_bag_here", "_law_side", "_law_told", "_law_rows", "_law_count", "_law_how", "_law_chan_here", "_law_item", "_law_made", "_law_row", "_law_wrong"] ["_law_bag_here", "_law_side"] (defScope s_law_deed) := ⟨rfl, rfl, rfl, by decide +kernel, rfl, by decide +kernel, by decide +kernel⟩
theorem f_law_deed (F : FunD K "_law_deed" "_law_deed" (defArgs s_law_deed) (defBody s_law_deed) (defScope s_law_deed) [] [] f fd) (hm : mg "_law_deed" = some (.ref f)) {cB cN c0 P0 : Addr} (hC : fd.code = .ref c0) (TBc : TabB base mg c0 P0) (T : Bt mg) (TBag : Ct K mg "Bag" cB ["_letters", "_coming"]) (F_law_draw : Fn P w K mg base 1 "_law_draw" (spDraw K)) (F_law_of : Fn P w K mg base 2 "_law_of" (spOf K)) (F_law_same : Fn P w K mg base 5 "_law_same" (spLike K 5)) (F_law_chan : Fn P w K mg base 3 "_law_chan" (spChanK K)) (F_law_word : Fn P w K mg base 4 "_law_word" (spWordK K)) (F_law_strange : Fn P w K mg base 3 "_law_strange" (spStrange K)) (L_law_refused : LamF2 5 P w K mg base "_law_refused" "_law_told" (TRef cN K 4)) (MBag_put : Mt P w K mg base 1 cB "put" (spLbPut cB K)) (MBag_take : Mt P w K mg base 4 cB "take" (spLbTake cB K)) (MBag_double : Mt P w K mg base 4 cB "double" (spLbDouble cB K)) (XBag_take : MtX P w K mg base 4 cB "take" (spLbTakeX cB cN K)) (XBag_double : MtX P w K mg base 4 cB "double" (spLbTakeX cB cN K)) (SBag_contains : SmF P w K mg base 2 cB "__contains__" (spLbHas cB K)) : Fn P w K mg base 8 "_law_deed" (spDeed cB P0 K) := by
  refine fn_defC F hm hC c_law_deed (fun vs H Q E h => ?_) (fun _ _ _ _ _ _ us hl => match us, hl with | [_, _], _ => rfl) (fun A outer s H vs Q E hr h => ?_)
  · obtain ⟨b, s, c, n, rfl, _⟩ := h
    rfl
  · obtain ⟨b, s', c, n, rfl, hb, hS, g, n9, nd', bo, hT, k⟩ := h
    have nd := c_law_deed.nd
    refine ⟨_, (pss_cons (ps_asg (pe_tup (pa_cons (pe_ix ix_list (pv 1) pe_int (fun _ _ => rfl)) (pa_cons (pe_ix ix_list (pv 1) pe_int (fun _ _ => rfl)) (pa_cons (pe_ix ix_list (pv 1) pe_int (fun _ _ => rfl)) pa_nil)))) (pg_tup rfl (pgs_cons (pg_name (i := 2) nd rfl (by first | exact Or.inl rfl | exact Or.inr rfl)) (pgs_cons (pg_name (i := 3) nd rfl (by first | exact Or.inl rfl | exact Or.inr rfl)) (pgs_cons (pg_name (i := 4) nd rfl (by first | exact Or.inl rfl | exact Or.inr rfl)) pgs_nil)))))
      (pss_mid (ps_set (i := 5) nd rfl (by first | exact Or.inl rfl | exact Or.inr rfl) (pe_fn F_law_draw (hr.mono (by decide)) (pa_cons (pv 0) (pa_cons pe_int pa_nil))))
      (pss_cons (ps_if (PW.pt (pw_or (pt_cmpR op_lt (pv 5) pe_int (nomark _)) (pw_or1 (PW.pt (pw_and (pt_cmpR (op_eqD hr.units) (pv 3) (pe_lst pa_nil) (nomark _)) (pw_and1 (pt_cmpR op_lt (pv 5) pe_int (nomark _))))))))
        (pss_cons (ps_set (i := 6) nd rfl (by first | exact Or.inl rfl | exact Or.inr rfl) (pe_fn F_law_chan (hr.mono (by decide)) (pa_cons (pv 0) pa_nil)))
        (pss_cons (ps_par (i := 7) (j := 8) (by rfl) nd rfl rfl (by decide) rfl rfl (pa_cons (pe_fn F_law_word (hr.mono (by decide)) (pa_cons (pv 0) (pa_cons (pv 6) pa_nil))) (pa_cons (pe_op op_sub (pe_fn F_law_draw (hr.mono (by decide)) (pa_cons (pv 0) (pa_cons pe_int pa_nil))) pe_int) pa_nil)) (by rfl))
        (pss_cons (ps_if (pt_not (pt_val (pe_fn F_law_same (hr.mono (by decide)) (pa_cons (pe_mt MBag_put (hr.mono (by decide)) (pv 2) (pa_cons (pv 6) (pa_cons (pv 8) (pa_cons (pv 7) pa_nil)))) (pa_cons (pv 4) pa_nil)))))
          (pss_one (ps_ret pe_bl))
          pss_nil)
        (pss_cons (ps_expr (pe_bm PySem.F.plainAttrs_list PySem.F.slot_list_append PySem.F.type_list_append mt_append (pv 3) (pa_cons (pe_tup (pa_cons (pv 4) (pa_cons (pv 6) (pa_cons (pv 8) (pa_cons (pv 7) pa_nil))))) pa_nil)))
        (pss_one (ps_asg (pe_op op_add (pv 4) pe_int) (pg_sub (pv 1) pe_int set_list)))))))
        (pss_one (ps_if (pt_cmpR op_lt (pv 5) pe_int (nomark _))
          (pss_cons (ps_set (i := 9) nd rfl (by first | exact Or.inl rfl | exact Or.inr rfl) (pe_fn F_law_of (hr.mono (by decide)) (pa_cons (pv 0) (pa_cons (pv 3) pa_nil))))
          (pss_cons (ps_if (pt_not (pt_val (pe_fn F_law_same (hr.mono (by decide)) (pa_cons (pe_mt MBag_take (hr.mono (by decide)) (pv 2) (pa_cons (pe_ix ix_tup (pv 9) pe_int (fun _ _ => rfl)) pa_nil)) (pa_cons (pv 9) pa_nil)))))
            (pss_one (ps_ret pe_bl))
            pss_nil)
          (pss_one (ps_expr (pe_bm PySem.F.plainAttrs_list PySem.F.slot_list_remove PySem.F.type_list_remove (mt_remD (hu65 hr)) (pv 3) (pa_cons (pv 9) pa_nil))))))
          (pss_one (ps_if (pt_cmpR op_lt (pv 5) pe_int (nomark _))
            (pss_cons (ps_set (i := 9) nd rfl (by first | exact Or.inl rfl | exact Or.inr rfl) (pe_fn F_law_of (hr.mono (by decide)) (pa_cons (pv 0) (pa_cons (pv 3) pa_nil))))
            (pss_cons (ps_if (pt_not (pt_val (pe_fn F_law_same (hr.mono (by decide)) (pa_cons (pe_mt MBag_double (hr.mono (by decide)) (pv 2) (pa_cons (pe_ix ix_tup (pv 9) pe_int (fun _ _ => rfl)) pa_nil)) (pa_cons (pv 4) pa_nil)))))
              (pss_one (ps_ret pe_bl))
              pss_nil)
            (pss_cons (ps_expr (pe_bm PySem.F.plainAttrs_list PySem.F.slot_list_append PySem.F.type_list_append mt_append (pv 3) (pa_cons (pe_tup (pa_cons (pv 4) (pa_cons (pe_ix ix_tup (pv 9) pe_int (fun _ _ => rfl)) (pa_cons (pe_ix ix_tup (pv 9) pe_int (fun _ _ => rfl)) (pa_cons (pe_ix ix_tup (pv 9) pe_int (fun _ _ => rfl)) pa_nil))))) pa_nil)))
            (pss_one (ps_asg (pe_op op_add (pv 4) pe_int) (pg_sub (pv 1) pe_int set_list))))))
            (pss_cons (ps_set (i := 10) nd rfl (by first | exact Or.inl rfl | exact Or.inr rfl) (pe_fn F_law_strange (hr.mono (by decide)) (pa_cons (pv 0) (pa_cons (pv 3) (pa_cons (pv 4) pa_nil)))))
            (pss_cons (ps_if (PW.pt (pw_or (pt_not (pt_val (pe_fn F_law_same (hr.mono (by decide)) (pa_cons (pe_cmpR (op_inO SBag_contains (hr.mono (by decide))) (pv 10) (pv 2) (by rfl)) (pa_cons pe_bl pa_nil))))) (pw_or1 (pt_not (pt_val (pe_lamP L_law_refused (x := "_law_x") (T := CTd P0) TBc rfl (List.mem_singleton.mpr rfl) (fun p hp _ => by rw [List.mem_singleton.mp hp]; rfl) (hr.mono (by decide)) (lamP_by (sc := defScope s_law_deed) (by decide +kernel)) (show ("_law_x" : Str) ∉ (["_law_bag_here", "_law_side", "_law_told", "_law_rows", "_law_count", "_law_how", "_law_chan_here", "_law_item", "_law_made", "_law_row", "_law_wrong"] : List Str) by decide) rfl (fun _ _ _ _ _ _ => rfl) (fun A outer s H E f c' hr => (pe_mtX XBag_take (hr.mono (by decide)) (L2N.takes_of rfl rfl rfl rfl) (pv 2) (pa_cons (pv 11) pa_nil))) (pa_cons (pv 10) pa_nil) rfl rfl))))))
              (pss_one (ps_ret pe_bl))
              pss_nil)
            (pss_one (ps_ret (pe_lamP L_law_refused (x := "_law_y") (T := CTd P0) TBc rfl (List.mem_singleton.mpr rfl) (fun p hp _ => by rw [List.mem_singleton.mp hp]; rfl) (hr.mono (by decide)) (lamP_by (sc := defScope s_law_deed) (by decide +kernel)) (show ("_law_y" : Str) ∉ (["_law_bag_here", "_law_side", "_law_told", "_law_rows", "_law_count", "_law_how", "_law_chan_here", "_law_item", "_law_made", "_law_row", "_law_wrong"] : List Str) by decide) rfl (fun _ _ _ _ _ _ => rfl) (fun A outer s H E f c' hr => (pe_mtX XBag_double (hr.mono (by decide)) (L2N.takes_of rfl rfl rfl rfl) (pv 2) (pa_cons (pv 11) pa_nil))) (pa_cons (pv 10) pa_nil) rfl rfl))))))))))
      (pss_one (ps_ret pe_bl))))), ?_⟩
    show (_ : TS) _ [some _, some _, none, none, none, none, none, none, none, none, none] _
    try dsimp only [cxOf, Cx.nox]
    have hnd : (b.a :: s'.own).Nodup := List.nodup_cons.mpr ⟨bo.ne, nd'⟩
    have hl : SqL K H s'.sd [.ref s'.a, .ref s'.p, .int (n : Int)] := .inl (.inl hS.lst)
    walk_at "go"
    rename_i t0 ht0
    have e0 : Ext [] H (upd H t0 (.tup [.ref s'.a, .ref s'.p, .int n])) := Ext.refl.new ht0
    have b0 := hb.x0 e0
    refine r_mid (fun σ' H' => ∃ how : Int, σ' = [some (.ref b.a), some (.ref s'.sd), some (.ref s'.a), some (.ref s'.p), some (.int n), some (.int how), none, none, none, none, none] ∧ BagAt K H' b ∧ SideAt cB K H' s' c n ∧ Tabs (CTd P0) H' ∧ Ext [b.a] H H') ?_ ?_
    · walk_at "go"
      refine k_draw b0 (by decide) (by decide) fun how H1 _ _ b1 n1 => ?_
      have e1 : Ext [b.a] H H1 := (e0.mono fun _ z => nomatch z).trans n1
      walk_at "go"
      exact ⟨how, rfl, b1, hS.bg hb g e1 hnd, Tabs.bg hb e1 hT, e1⟩
    · rintro σ' H0 ⟨how, rfl, b0, S0, T0, e0⟩
      refine r_seq ?_
      refine r_ifS ?_
      refine tt_key (fun bb H3 => Ext [] H0 H3 ∧ (bb = false → 3 ≤ how ∧ (c = [] → 7 ≤ how))) ?_ ?_
      · rintro bb H3 ⟨e3, hbb⟩
        have b3 := b0.x0 e3
        have S3 := S0.t g (ExtT.of e3) (fun _ z => nomatch z) fun _ _ z => nomatch z
        have T3 := T0.ext fun b o h => e3 b o h List.not_mem_nil
        have e03 : Ext [b.a] H H3 := e0.trans (e3.mono fun _ z => nomatch z)
        clear e0 e3 b0 S0 T0
        cases bb with
        | true =>
          clear hbb
          rw [if_pos rfl]
          walk_at "go"
          refine ⟨b, rfl, b3, fun v1 x1 H4 d1 m1 b4 n4 => ?_⟩
          walk_at "go"
          refine ⟨b, v1, x1, rfl, b4, d1, m1, fun v2 x2 H5 d2 w2 b5 n5 => ?_⟩
          have d1' := dpT (ExtT.of n5) (bag_nt b4) d1 (chan_ok m1).nol
          walk_at "go"
          refine k_draw b5 (by decide) (by decide) fun y H6 _ _ b6 n6 => ?_
          have d1'' := dpT (ExtT.of n6) (bag_nt b5) d1' (chan_ok m1).nol
          have d2'' := dpT (ExtT.of n6) (bag_nt b5) d2 (wd_ok w2).nol
          have n36 := n4.trans (n5.trans n6)
          have S6 := S3.bg b3 g n36 hnd
          have T6 := Tabs.bg b3 n36 T3
          have e06 := e03.trans n36
          obtain ⟨dx, l, ha6, hd6, hl6⟩ := S6.bag
          clear d1 d1' d2 S3 T3 n4 n5 n6 n36 e03
          walk_at "go"
          have hx : IsL n (.tuple [.int (n : Int), x1, .int (y - 3), x2]) := ⟨x1, y - 3, x2, rfl, m1, w2⟩
          have hgl := g.len
          refine ⟨s'.d, s'.a, c, n, v1, _, v2, x1, .int (y - 3), x2, rfl, S6.bag, by omega, by omega, d1'', .int _, d2'', (let_ok hx).shaped, fun H7 e7 L7 => ?_⟩
          walk_at "go"
          refine k_like (.int _ _) fun H8 e8 => ?_
          obtain ⟨vs, hp6, hvs6⟩ := S6.rows
          have hlen := hvs6.1
          have nn := nd'
          simp only [Sd.own, List.nodup_cons, List.mem_cons, List.not_mem_nil, or_false, not_or] at nn
          have nt7 : NoTup H6 [s'.a, s'.d] := fun y hy => S6.nt y (by simp [Sd.own] at hy ⊢; rcases hy with z | z <;> simp [z])
          have e68 := e7.trans (e8.mono fun _ z => nomatch z)
          have hp8 := e68 _ _ hp6 (by simp [Ne.symm nn.2.1.2, Ne.symm nn.2.2.1])
          walk_at "run"
          refine ⟨.inl ⟨rfl, _, .inl (.inl hp8)⟩, ?_⟩
          walk_at "go"
          rename_i t ht
          have e9 : Ext [] H8 (upd H8 t (.tup [.int (n : Int), v1, .int (y - 3), v2])) := Ext.refl.new ht
          have hp9 := e9 _ _ hp8 List.not_mem_nil
          have tr := fun {v : V} {x : PyData} (z : Dp K H6 v x) (o : noL x = true) => dpx0 e9 (dpT (ExtT.of e68) nt7 z o)
          have hv9 : Dp K (upd H8 t (.tup [.int (n : Int), v1, .int (y - 3), v2])) (.ref t) (.tuple [.int (n : Int), x1, .int (y - 3), x2]) := .tup tupS (.cons (.int _) (.cons (tr d1'' (chan_ok m1).nol) (.cons (.int _) (.cons (tr d2'' (wd_ok w2).nol) .nil))))
          have hs9 := e9 _ _ (e68 _ _ S6.lst (by simp [nn.1.1, nn.1.2.1])) List.not_mem_nil
          have hvs9 := (hvs6.t g (ExtT.of e68) nt7).t g (ExtT.of e9) fun _ z => nomatch z
          have E := deed_end S6 g nd' bo b6 T6 e7 L7 hx (e8.trans e9) hv9 hp9 hvs9
          generalize upd H8 t (.tup [.int (n : Int), v1, .int (y - 3), v2]) = H9 at *
          refine r_app hp9 (by omega) ?_
          walk_at "run"
          refine ⟨s'.sd, _, 2, 2, rfl, rfl, by rw [upd_ne nn.1.2.2]; exact hs9, rfl, ?_⟩
          walk_at "go"
          exact k _ _ _ (((ExtT.of e06).mono (by simp)).trans E.1) E.2.1 E.2.2.1 (g.snoc hx) (Nat.le_refl _) E.2.2.2
        | false =>
          obtain ⟨hb3, hbc⟩ := hbb rfl
          rw [if_neg (by decide)]
          have nn := nd'
          simp only [Sd.own, List.nodup_cons, List.mem_cons, List.not_mem_nil, or_false, not_or] at nn
          have hgl := g.len
          have row : c ≠ [] → ∀ {R : VK}, (∀ (i : Nat) (v : V) (kk : Int) (x : PyData) (H4 : Hp), c[i]? = some (kk, x) → Lt K H4 v x → BagAt K H4 b → Ext [b.a] H3 H4 → SideAt cB K H4 s' c n → Tabs (CTd P0) H4 → R v H4) → spOf K [.ref b.a, .ref s'.p] H3 R E0 := fun hc R kr => by
            obtain ⟨vs, hp3, hvs⟩ := S3.rows
            have hlen := hvs.1
            have hpos : 0 < c.length := List.length_pos_iff.mpr hc
            refine ⟨b, s'.p, vs, rfl, b3, .inl (.inl hp3), (fun z => bo.ne (by rw [z]; simp [Sd.own])), by omega, by omega, fun i v H4 hv b4 n4 => ?_⟩
            obtain ⟨⟨kk, x⟩, hq, hx⟩ := (hvs.t g (ExtT.of n4) (bag_nt b3)).at_ hv
            exact kr i v kk x H4 hq hx b4 n4 (S3.bg b3 g n4 hnd) (Tabs.bg b3 n4 T3)
          walk_at "go"
          refine r_dec (fun h5 => ?_) (fun h5 => ?_)
          · have hc : c ≠ [] := fun z => by have := hbc z; omega
            walk_at "go"
            refine row hc fun i v kk x H4 hq hx b4 n4 S4 T4 => ?_
            have hL : IsL kk x := (g.ok _ (List.mem_of_getElem? hq)).2.2
            obtain ⟨ra, u, w', t, ch, wd, rfl, hs, hu, hw, hch, hwd, ex⟩ := lt_tup hx hL
            have hgv : gv c kk = some x := (gv_iff g.nd).mpr (List.mem_of_getElem? hq)
            obtain ⟨dx, l, ha4, hd4, hl4⟩ := S4.bag
            walk_at "go"
            refine ⟨s'.d, s'.a, c, n, kk, x, rfl, S4.bag, hgv, fun v' H5 e5 L5 lt5 => ?_⟩
            have oL := let_ok hL
            have oD : x.depth ≤ 3 := oL.dep
            have nt4 : NoTup H4 [s'.d] := fun y hy => S4.nt y (by rw [List.mem_singleton.mp hy]; simp [Sd.own])
            have hx5 := dpT (ExtT.of e5) nt4 hx.1 oL.nol
            walk_at "go"
            refine k_like (dp_eqd x lt5.1 hx5 (by omega) oL.len) fun H6 e6 => ?_
            obtain ⟨vs, hp4, hvs4⟩ := S4.rows
            have hs4 := S4.lst
            have e46 : Ext [s'.d] H4 H6 := e5.trans (e6.mono fun _ z => nomatch z)
            have hp6 := e46 _ _ hp4 (by simp [Ne.symm nn.2.2.1])
            have hs6 := e46 _ _ hs4 (by simp [nn.1.2.1])
            have hvs6 := hvs4.t g (ExtT.of e46) nt4
            have b6 : BagAt K H6 b := (b4.f e5 (no_dk hd4).2).x0 e6
            walk_at "run"
            refine ⟨.inl ⟨rfl, _, .inl (.inl hp6)⟩, ?_⟩
            walk_at "go"
            refine ⟨s'.p, .ref ra, x, vs, c.map (·.2), i, rfl, rfl, hp6, rows_dp hvs6, dpx0 e6 hx5, (rows_lay fun p hp => (g.ok p hp).2.2).2.2.2, PyData.plain_of_canLay0 _ oL.lay, by omega, place_of g hq, ?_⟩
            walk_at "go"
            have e7 : Ext [s'.p] H6 (upd H6 s'.p (.lst (vs.eraseIdx i))) := Ext.refl.at_ (by simp)
            have nt6 : NoTup H6 [s'.p] := no_lst hp6
            have e47 : Ext [s'.d, s'.p] H4 (upd H6 s'.p (.lst (vs.eraseIdx i))) := (e46.mono (by simp)).trans (e7.mono (by simp))
            have g' := g.drop kk
            refine k (gd c kk) n _ (((ExtT.of (e03.trans n4)).mono (by simp)).trans ((ExtT.of e47).mono fun y hy => by simp [Sd.own] at hy ⊢; rcases hy with z | z <;> simp [z])) (bo.upd (by simp [Sd.own]) b6) ⟨by rw [upd_ne nn.1.2.2]; exact hs6, (L5.t g' (ExtT.of e6) (fun _ z => nomatch z) List.not_mem_nil List.not_mem_nil).t g' (ExtT.of e7) nt6 (by simp [nn.2.1.2]) (by simp [nn.2.2.1]), vs.eraseIdx i, upd_same, ?_⟩ g' (by omega) (Tabs.keep (fun y hy => ?_) e47 T4)
            · rw [gd_erase g.asc hq] at g' ⊢
              exact (hvs6.erase i).t g' (ExtT.of e7) nt6
            · simp only [List.mem_cons, List.not_mem_nil, or_false] at hy
              rcases hy with rfl | rfl
              · exact ⟨_, hd4, (fun _ z => nomatch z), fun q z => by unfold CodeO at z; cases z⟩
              · exact ⟨_, hp4, (fun _ z => nomatch z), fun q z => by unfold CodeO at z; cases z⟩
          · walk_at "go"
            refine r_dec (fun h7 => ?_) (fun h7 => ?_)
            · have hc : c ≠ [] := fun z => by have := hbc z; omega
              walk_at "go"
              refine row hc fun i v kk x H4 hq hx b4 n4 S4 T4 => ?_
              have hL : IsL kk x := (g.ok _ (List.mem_of_getElem? hq)).2.2
              obtain ⟨ra, u, w', t, ch, wd, rfl, hs, hu, hw, hch, hwd, ex⟩ := lt_tup hx hL
              have hgv : gv c kk = some x := (gv_iff g.nd).mpr (List.mem_of_getElem? hq)
              obtain ⟨dx, l, ha4, hd4, hl4⟩ := S4.bag
              have hX : IsL n (.tuple [.int (n : Int), ch, .int t, wd]) := ⟨ch, t, wd, rfl, hch, hwd⟩
              walk_at "go"
              refine ⟨s'.d, s'.a, c, n, kk, .int kk, ch, .int t, wd, rfl, S4.bag, by omega, by omega, by rw [hgv, ex], (let_ok hX).shaped, fun H5 e5 L5 => ?_⟩
              walk_at "go"
              refine k_like (.int _ _) fun H6 e6 => ?_
              obtain ⟨vs, hp4, hvs4⟩ := S4.rows
              have hlen := hvs4.1
              have nt4 : NoTup H4 [s'.a, s'.d] := fun y hy => S4.nt y (by simp [Sd.own] at hy ⊢; rcases hy with z | z <;> simp [z])
              have e46 := e5.trans (e6.mono fun _ z => nomatch z)
              have hp6 := e46 _ _ hp4 (by simp [Ne.symm nn.2.1.2, Ne.symm nn.2.2.1])
              have hs6 : SqT K H6 ra [.int kk, u, .int t, w'] := tupT (ExtT.of e46) hs nt4
              walk_at "run"
              refine ⟨.inl ⟨rfl, _, .inl (.inl hp6)⟩, ?_⟩
              walk_at "go"
              rename_i tt htt
              have e9 : Ext [] H6 (upd H6 tt (.tup [.int (n : Int), u, .int t, w'])) := Ext.refl.new htt
              have hp9 := e9 _ _ hp6 List.not_mem_nil
              have tr := fun {v : V} {x : PyData} (z : Dp K H4 v x) (o : noL x = true) => dpx0 e9 (dpT (ExtT.of e46) nt4 z o)
              have hv9 : Dp K (upd H6 tt (.tup [.int (n : Int), u, .int t, w'])) (.ref tt) (.tuple [.int (n : Int), ch, .int t, wd]) := .tup tupS (.cons (.int _) (.cons (tr hu (chan_ok hch).nol) (.cons (.int _) (.cons (tr hw (wd_ok hwd).nol) .nil))))
              have hs9 := e9 _ _ (e46 _ _ S4.lst (by simp [nn.1.1, nn.1.2.1])) List.not_mem_nil
              have hvs9 := (hvs4.t g (ExtT.of e46) nt4).t g (ExtT.of e9) fun _ z => nomatch z
              have E := deed_end S4 g nd' bo b4 T4 e5 L5 hX (e6.trans e9) hv9 hp9 hvs9
              generalize upd H6 tt (.tup [.int (n : Int), u, .int t, w']) = H9 at *
              refine r_app hp9 (by omega) ?_
              walk_at "run"
              refine ⟨s'.sd, _, 2, 2, rfl, rfl, by rw [upd_ne nn.1.2.2]; exact hs9, rfl, ?_⟩
              walk_at "go"
              exact k _ _ _ (((ExtT.of (e03.trans n4)).mono (by simp)).trans E.1) E.2.1 E.2.2.1 (g.snoc hX) (Nat.le_refl _) E.2.2.2
            · walk_at "go"
              refine ⟨b, s'.p, c, n, rfl, b3, S3.rows, g, n9, (fun z => bo.ne (by rw [← z]; simp [Sd.own])), fun v x H4 hv hno hf b4 n4 => ?_⟩
              have S4 := S3.bg b3 g n4 hnd
              have T4 := Tabs.bg b3 n4 T3
              obtain ⟨dx, l, ha4, hd4, hl4⟩ := S4.bag
              walk_at "go"
              refine ⟨s'.a, dx, _, rfl, ha4, s'.d, s'.a, c, n, v, x, rfl, S4.bag, hv, false, by rw [← hno]; cases x <;> rfl, ?_⟩
              walk_at "run"
              refine k_like (.bl _ _) fun H5 e5 => ?_
              walk_at "run"
              have fl := flat_ok hf
              -- a lambda told, refused
              have once : ∀ (H5 : Hp) (R : VK) (tl : (XK → V → Hp → VK → Prop)), ExtN H4 H5 → Tabs (CTd P0) H5 → (∀ (E : XK) (H6 : Hp) (QQ : VK), LbAt cB K H6 s'.d s'.a c n → Dp K H6 v x → (∀ d, H6 d = none → E (.ref cN) (some d) (upd H6 d (.xd [("number", v)]))) → tl E v H6 QQ) →
                  (∀ H8, ExtN H4 H8 → Tabs (CTd P0) H8 → R (.bl true) H8) → ∀ H6, ExtN H5 H6 → Tabs (CTd P0) H6 → TRef cN K 4 tl v H6 R := fun H5 R tl e45 T5 ht hR H6 e6 T6 QQ => by
                have e46 := e45.trans e6
                refine ht _ H6 QQ (S4.bag.t g (ExtT.n (S := []) e46) (fun _ z => nomatch z) List.not_mem_nil List.not_mem_nil) (dpN e46 hv) fun d hd => ?_
                have e7 : Ext [] H6 (upd H6 d (.xd [("number", v)])) := Ext.refl.new hd
                refine ⟨d, rfl, rfl, upd_same, dp_eqd x (dpN (extN_of e7) (dpN e46 hv)) (dpN (extN_of e7) (dpN e46 hv)) fl.1 fl.2, fun H8 e8 => ?_⟩
                exact hR H8 (e46.trans (extN_of (e7.trans e8))) (T6.ext fun b o h => (e7.trans e8) b o h List.not_mem_nil)
              have T5 := T4.ext fun b o h => e5 b o h List.not_mem_nil
              refine r_tLamP T5 fun H6 e6 T6 => ?_
              walk_at "go"
              refine ⟨v, rfl, rfl, ?_⟩
              refine once H5 _ _ (extN_of e5) T5 ?_ ?_ H6 e6 T6
              · intro E H7 QQ hB hv7 hE
                obtain ⟨_, _, ha7, _, _⟩ := id hB
                walk_at "go"
                exact ⟨s'.d, s'.a, c, n, v, x, rfl, hB, hv7, hno, hE⟩
              · intro H8 e8 T8
                walk_at "run"
                refine r_tLamP T8 fun H9 e9 T9 => ?_
                walk_at "go"
                refine ⟨v, rfl, rfl, ?_⟩
                refine once H8 _ _ e8 T8 ?_ ?_ H9 e9 T9
                · intro E H7 QQ hB hv7 hE
                  obtain ⟨_, _, ha7, _, _⟩ := id hB
                  walk_at "go"
                  exact ⟨s'.d, s'.a, c, n, v, x, rfl, hB, hv7, hno, hE⟩
                · intro H10 e10 T10
                  exact k c n H10 (((ExtT.of (e03.trans n4)).mono (by simp)).trans (ExtT.n e10)) (b4.e e10) (S4.t g (ExtT.n (S := []) e10) (fun _ z => nomatch z) fun _ _ z => nomatch z) g (by omega) T10
      · intro Q' hQ
        walk_at "go"
        refine r_dec (fun h3 => hQ _ _ ⟨Ext.refl, fun z => by cases z⟩) (fun h3 => ?_)
        walk_at "go"
        rename_i t1 ht1
        obtain ⟨vs, hp0, hvs⟩ := S0.rows
        have e1 : Ext [] H0 (upd H0 t1 (.lst [])) := Ext.refl.new ht1
        refine ⟨_, _, .lst (.inl (.inl (e1 _ _ hp0 List.not_mem_nil))) (rows_dp (hvs.t g (ExtT.of e1) fun _ z => nomatch z)), .lst (.inl (.inl upd_same)) .nil, g.rows_shaped, by decide +kernel, _, rfl, ?_⟩
        rw [nil_eqv]
        refine r_dec (fun hc => ?_) (fun hc => ?_)
        · walk_at "go"
          refine hQ _ _ ⟨e1, fun z => ?_⟩
          have := of_decide_eq_false z
          exact ⟨by omega, fun _ => by omega⟩
        · exact hQ _ _ ⟨e1, fun _ => ⟨by omega, fun z => absurd z hc⟩⟩
end
end Yk

set_option maxHeartbeats 8000000
namespace Yk
open PySem PySem.Spec PyProof.Rows L2 L2H LamX

local macro_rules | `(tactic| walk_at "st") => `(tactic| first
  | with_reducible refine' r_tAt ?_
  | ((with_reducible refine' r_fld ?h1 ?h2 ?h3); (case h1 => first | assumption | exact upd_same); (case h2 => first | walk_at "lk" | rfl))
  | with_reducible refine' r_sAt ?_
  | ((with_reducible refine' r_putU ?h1 ?h2); (case h1 => (repeat refine putF_lt ?_); decide))
  | ((with_reducible refine' r_put ?h1 ?h2 ?h3); (case h1 => first | assumption | exact upd_same); (case h2 => (repeat refine putF_lt ?_); decide))
  | with_reducible refine' r_tMt ?_
  | ((with_reducible refine' r_met ?h1 ?h2 ?h3); (case h1 => first | assumption | exact upd_same); (case h2 => first | walk_at "lk" | rfl))
  | with_reducible refine' r_tCr ?_
  | with_reducible refine' r_tCrK ?_
  | with_reducible refine' r_chain ?_)
local macro_rules | `(tactic| walk_at "st") => `(tactic| first
  | with_reducible refine' r_dget ?_
  | with_reducible refine' r_dc ?_
  | with_reducible refine' r_iVals ?_
  | with_reducible refine' r_dnotin ?_
  | with_reducible refine' r_din ?_
  | with_reducible refine' r_iItems ?_
  | with_reducible refine' r_iKeysT ?_
  | with_reducible refine' r_tget1 ?_
  | with_reducible refine' r_tget2 ?_
  | with_reducible refine' r_dput ?_
  | with_reducible refine' r_tPr ?_
  | ((with_reducible refine' r_prp2 ?h1 ?h2); (case h1 => first | assumption | exact upd_same))
  | with_reducible refine' r_par3 ?_
  | ((with_reducible refine' r_dnT ?_); (intro np hnp))
  | ((with_reducible refine' r_dnK ?_); (intro np hnp)))
/-! The law's looks at a side. -/
theorem r_truO {C : Addr} {sp : Sp} {te : TE} {σ : L2.St} {H : Hp} {Q : Bool → Hp → Prop} (h : te σ H fun x H1 => ∃ a dx fs, x = .ref a ∧ H1 a = some (.ins C dx fs) ∧ sp [.ref a] H1 (fun r H' => ∃ b, r = .bl b ∧ Q b H') E0) : tTruO C sp te σ H Q := h
local macro_rules | `(tactic| walk_at "lk") => `(tactic| first | with_reducible exact lk_Lb_letters | with_reducible exact lk_Lb_coming | exact lk_Lb_no (by decide +kernel) (by decide +kernel))
local macro_rules | `(tactic| walk_at "st") => `(tactic| first | with_reducible refine' r_truO ?_)
/-- rows alike -/
theorem rows_eqd {K : PySem.W.Frag} {H : Hp} {p q : Addr} {vs ws : List V} {c : List (Int × PyData)} {n : Nat} (g : GoodL c n) (hn : n ≤ 900) (h1 : SqL K H p vs) (h2 : SqL K H q ws) (l1 : LtAll K H vs c) (l2 : LtAll K H ws c) : Eqd K H 4 (.ref p) (.ref q) := by
  have h := rows_lay fun p hp => (g.ok p hp).2.2
  have hl := g.len
  refine dp_eqd (.list (c.map (·.2))) (.lst h1 (rows_dp l1)) (.lst h2 (rows_dp l2)) (by simp only [PyData.depth]; have := h.2.1; omega) ?_
  simp only [lenOk, h.2.2.1, Bool.and_true, List.length_map]
  exact decide_eq_true (by omega)
section
variable {P : Program} {w : World} {K : PySem.W.Frag} {mg : Str → Option Value} {base : Heap} {f : Addr} {fd : FuncData}
def spLookB (cB : Addr) (K : PySem.W.Frag) : Sp := fun vs H Q _ => ∃ (b : Bag) (s : Sd) (c : List (Int × PyData)) (n : Nat), vs = [.ref b.a, .ref s.sd] ∧ BagAt K H b ∧ SideAt cB K H s c n ∧ GoodL c n ∧ n ≤ 900 ∧ s.own.Nodup ∧ b.a ∉ s.own ∧ ∀ H', BagAt K H' b → Ext [b.a] H H' → Q (.bl true) H'
abbrev s_law_looks : Stmt := top 20
theorem c_law_looks : FnScope ["_law_bag_here", "_law_side", "_law_told", "_law_rows", "_law_count", "_law_k", "_law_found", "_law_until", "_law_row"] ["_law_bag_here", "_law_side"] (defScope s_law_looks) := ⟨rfl, rfl, rfl, by decide +kernel, rfl, by decide +kernel, by decide +kernel⟩
theorem f_law_looks (F : FunD K "_law_looks" "_law_looks" (defArgs s_law_looks) (defBody s_law_looks) (defScope s_law_looks) [] [] f fd) (hm : mg "_law_looks" = some (.ref f)) {cB : Addr} (T : Bt mg) (TBag : Ct K mg "Bag" cB ["_letters", "_coming"]) (F_law_draw : Fn P w K mg base 1 "_law_draw" (spDraw K)) (F_law_same : Fn P w K mg base 5 "_law_same" (spLike K 5)) (MBag_letters : Mt P w K mg base 1 cB "letters" (spLbLetters cB K)) (MBag_older : Mt P w K mg base 2 cB "older" (spLbOlder cB K)) (SBag_contains : SmF P w K mg base 2 cB "__contains__" (spLbHas cB K)) (SBag_len : SmF P w K mg base 1 cB "__len__" (spLbLen cB K)) (SBag_bool : SmF P w K mg base 1 cB "__bool__" (spLbTrue cB)) : Fn P w K mg base 6 "_law_looks" (spLookB cB K) := by
  refine fn_def F hm c_law_looks (fun vs H Q E h => ?_) (fun _ _ _ _ _ _ us hl => match us, hl with | [_, _], _ => rfl) (fun cdv A outer s H vs Q E hr h => ?_)
  · obtain ⟨b, s, c, n, rfl, _⟩ := h
    rfl
  · obtain ⟨b, s', c, n, rfl, hb, hS, g, n9, nd', nb, k⟩ := h
    have nd := c_law_looks.nd
    refine ⟨_, (pss_mid (ps_asg (pe_tup (pa_cons (pe_ix ix_list (pv 1) pe_int (fun _ _ => rfl)) (pa_cons (pe_ix ix_list (pv 1) pe_int (fun _ _ => rfl)) (pa_cons (pe_ix ix_list (pv 1) pe_int (fun _ _ => rfl)) pa_nil)))) (pg_tup rfl (pgs_cons (pg_name (i := 2) nd rfl (by first | exact Or.inl rfl | exact Or.inr rfl)) (pgs_cons (pg_name (i := 3) nd rfl (by first | exact Or.inl rfl | exact Or.inr rfl)) (pgs_cons (pg_name (i := 4) nd rfl (by first | exact Or.inl rfl | exact Or.inr rfl)) pgs_nil)))))
      (pss_mid (ps_if (PW.pt (pw_or (pt_not (pt_val (pe_fn F_law_same (hr.mono (by decide)) (pa_cons (pe_callB (call_lenO SBag_len (hr.mono (by decide))) (by rfl) T.len (by decide +kernel) (pa_cons (pv 2) pa_nil)) (pa_cons (pe_callB cr_len (by rfl) T.len (by decide +kernel) (pa_cons (pv 3) pa_nil)) pa_nil))))) (pw_or1 (pt_not (pt_truO SBag_bool (hr.mono (by decide)) (pv 2))))))
        (pss_one (ps_ret pe_bl))
        pss_nil)
      (pss_mid (ps_for PassesOwn.never rfl (pi_range1 rfl T.range (pa_cons pe_int pa_nil)) (pg_name (i := 5) nd rfl (by first | exact Or.inl rfl | exact Or.inr rfl))
        (pss_cons (ps_set (i := 6) nd rfl (by first | exact Or.inl rfl | exact Or.inr rfl) (pe_mt0 MBag_letters (hr.mono (by decide)) (pv 2)))
        (pss_cons (ps_if (pt_not (pt_val (pe_fn F_law_same (hr.mono (by decide)) (pa_cons (pv 6) (pa_cons (pv 3) pa_nil)))))
          (pss_one (ps_ret pe_bl))
          pss_nil)
        (pss_cons (ps_expr (pe_bm PySem.F.plainAttrs_list PySem.F.slot_list_append PySem.F.type_list_append mt_append (pv 6) (pa_cons pe_non pa_nil)))
        (pss_one (ps_expr (pe_bm0 PySem.F.plainAttrs_list PySem.F.slot_list_reverse PySem.F.type_list_reverse mt_reverse (pv 6))))))))
      (pss_cons (ps_set (i := 7) nd rfl (by first | exact Or.inl rfl | exact Or.inr rfl) (pe_op op_sub (pe_fn F_law_draw (hr.mono (by decide)) (pa_cons (pv 0) (pa_cons pe_int pa_nil))) pe_int))
      (pss_cons (ps_set (i := 6) nd rfl (by first | exact Or.inl rfl | exact Or.inr rfl) (pe_mt MBag_older (hr.mono (by decide)) (pv 2) (pa_cons (pv 7) pa_nil)))
      (pss_mid (ps_if (pt_not (pt_val (pe_fn F_law_same (hr.mono (by decide)) (pa_cons (pv 6) (pa_cons (pe_lc (own := [("_law_row", 8)]) (g := gName 8) rfl nd (pi_list (pv 3)) (blkOk_by (N := ["_law_bag_here", "_law_side", "_law_told", "_law_rows", "_law_count", "_law_k", "_law_found", "_law_until", "_law_row"]) (sc := defScope s_law_looks) (by decide +kernel)) (fun _ _ _ _ _ => pg_name (i := 8) nd rfl (Or.inl rfl)) (fun _ _ _ _ _ => (pts_one (pt_cmpR op_le (pe_ix ix_tup (pv 8) pe_int (fun _ _ => rfl) : PE _ _ (tOp (rIxT K) _ _)) (pv 7) (nomark _)))) (fun _ _ _ _ _ => (pv 8))) pa_nil)))))
        (pss_one (ps_ret pe_bl))
        pss_nil)
      (pss_cons (ps_expr (pe_bm0 PySem.F.plainAttrs_list PySem.F.slot_list_clear PySem.F.type_list_clear mt_clear (pv 6)))
      (pss_one (ps_ret (pe_callB (cr_all rfl) (by rfl) T.all (by decide +kernel) (pa_cons (pe_lc (own := [("_law_k", 5)]) (g := gName 5) rfl nd (pi_range1 rfl T.range (pa_cons (pe_op op_add (pv 4) pe_int) pa_nil)) (blkOk_by (N := ["_law_bag_here", "_law_side", "_law_told", "_law_rows", "_law_count", "_law_k", "_law_found", "_law_until", "_law_row"]) (sc := defScope s_law_looks) (by decide +kernel)) (fun _ _ _ _ _ => pg_name (i := 5) nd rfl (Or.inl rfl)) (fun _ _ _ _ _ => pts_nil) (fun _ _ _ _ _ => (pe_fn F_law_same (hr.mono (by decide)) (pa_cons (pe_cmpR (op_inO SBag_contains (hr.mono (by decide))) (pv 5) (pv 2) (by rfl)) (pa_cons (pe_cmpR (r := rIn K false) op_in_seq (pv 5) (by exact pe_lc (own := [("_law_row", 8)]) (g := gName 8) rfl nd (pi_list (pv 3) : PI _ _ _ (iList K _)) (blkOk_by (by kernel_rfl)) (fun _ _ _ _ _ => pg_name (i := 8) nd rfl (Or.inl rfl)) (fun _ _ _ _ _ => pts_nil) (fun _ _ _ _ _ => (pe_ix ix_tup (pv 8) pe_int (fun _ _ => rfl) : PE _ _ (tOp (rIxT K) _ _)))) (by rfl)) pa_nil))))) pa_nil))))))))))), ?_⟩
    show (_ : TS) _ [some _, some _, none, none, none, none, none, none, none] _
    try dsimp only [cxOf, Cx.nox]
    have hl : SqL K H s'.sd [.ref s'.a, .ref s'.p, .int (n : Int)] := .inl (.inl hS.lst)
    have hgl := g.len
    refine r_mid (fun σ' H' => σ' = [some (.ref b.a), some (.ref s'.sd), some (.ref s'.a), some (.ref s'.p), some (.int n), none, none, none, none] ∧ Ext [] H H') ?_ ?_
    · walk_at "go"
      rename_i t0 ht0
      exact ⟨rfl, Ext.refl.new ht0⟩
    · rintro σ' H0 ⟨rfl, e0⟩
      have S0 := hS.t g (ExtT.of e0) (fun _ z => nomatch z) fun _ _ z => nomatch z
      have b0 := hb.x0 e0
      obtain ⟨dx, l, ha0, hd0, hl0⟩ := S0.bag
      obtain ⟨vs, hp0, hvs0⟩ := S0.rows
      have hlen := hvs0.1
      refine r_mid (fun σ' H' => σ' = [some (.ref b.a), some (.ref s'.sd), some (.ref s'.a), some (.ref s'.p), some (.int n), none, none, none, none] ∧ Ext [] H0 H') ?_ ?_
      · walk_at "go"
        refine ⟨s'.a, dx, _, rfl, ha0, s'.d, s'.a, c, n, rfl, S0.bag, c.length, rfl, Nat.lt_of_le_of_lt (by omega : c.length ≤ 4000) (by decide), ?_⟩
        walk_at "go"
        refine r_len (.inl (.inl (.inl hp0))) ?_
        rw [hlen]
        walk_at "go"
        refine k_like (.int _ _) fun H1 e1 => ?_
        have ha1 := e1 _ _ ha0 List.not_mem_nil
        walk_at "run"
        refine ⟨s'.a, dx, _, rfl, ha1, true, rfl, ?_⟩
        walk_at "run"
        exact ⟨rfl, e1⟩
      · rintro σ' H1 ⟨rfl, e1⟩
        have S1 := S0.t g (ExtT.of e1) (fun _ z => nomatch z) fun _ _ z => nomatch z
        have b1 := b0.x0 e1
        have e01 := e0.trans e1
        clear S0 b0 e0 e1 ha0 hd0 hl0 hp0 hvs0
        obtain ⟨dx, l, ha1, hd1, hl1⟩ := S1.bag
        obtain ⟨vs, hp1, hvs1⟩ := S1.rows
        have hlen := hvs1.1
        refine r_mid (fun σ' H' => (∃ u5 u6, σ' = [some (.ref b.a), some (.ref s'.sd), some (.ref s'.a), some (.ref s'.p), some (.int n), u5, u6, none, none]) ∧ Ext [] H1 H') ?_ ?_
        · refine r_for ?_
          walk_at "go"
          refine ⟨_, rfl, by omega, by omega, ?_⟩
          refine r_loopR (fun i σ H2 => (∃ u5 u6, σ = [some (.ref b.a), some (.ref s'.sd), some (.ref s'.a), some (.ref s'.p), some (.int n), u5, u6, none, none]) ∧ Ext [] H1 H2) ⟨⟨_, _, rfl⟩, Ext.refl⟩ ?_ fun σ H z => z
          rintro i σ H2 _ ⟨⟨u5, u6, rfl⟩, e2⟩
          have S2 := S1.t g (ExtT.of e2) (fun _ z => nomatch z) fun _ _ z => nomatch z
          have ha2 := e2 _ _ ha1 List.not_mem_nil
          walk_at "go"
          refine ⟨s'.d, s'.a, c, n, rfl, S2.bag, fun q ls H3 hq e3 hq3 hls => ?_⟩
          have hp3 := e3 _ _ (e2 _ _ hp1 List.not_mem_nil) List.not_mem_nil
          have hvs3 := hvs1.t g (ExtT.of (e2.trans e3)) fun _ z => nomatch z
          walk_at "go"
          refine k_like (rows_eqd g n9 (.inl (.inl hq3)) (.inl (.inl hp3)) hls hvs3) fun H4 e4 => ?_
          have hq4 := e4 _ _ hq3 List.not_mem_nil
          have hll := hls.1
          walk_at "run"
          refine ⟨.inl ⟨rfl, _, .inl (.inl hq4)⟩, ?_⟩
          walk_at "go"
          have e5 : Ext [] H1 (upd H4 q (.lst (ls ++ [.non]))) := (e2.trans (e3.trans e4)).own (by
            cases h : H1 q with
            | none => rfl
            | some o => rw [e2 _ _ h List.not_mem_nil] at hq; cases hq)
          have hq5 : upd H4 q (.lst (ls ++ [.non])) q = some (.lst (ls ++ [.non])) := upd_same
          have hqn : H1 q = none := by
            cases h : H1 q with
            | none => rfl
            | some o => rw [e2 _ _ h List.not_mem_nil] at hq; cases hq
          generalize upd H4 q (.lst (ls ++ [.non])) = H5 at *
          walk_at "go"
          refine ⟨.inl ⟨rfl, _, .inl (.inl hq5)⟩, ?_⟩
          refine ⟨q, _, rfl, rfl, hq5, ?_⟩
          walk_at "go"
          exact ⟨⟨_, _, rfl⟩, e5.own hqn⟩
        · rintro σ' H2 ⟨⟨u5, u6, rfl⟩, e2⟩
          have S2 := S1.t g (ExtT.of e2) (fun _ z => nomatch z) fun _ _ z => nomatch z
          have b2 := b1.x0 e2
          walk_at "go"
          refine k_draw b2 (by decide) (by decide) fun x H3 _ _ b3 n3 => ?_
          have e03 : Ext [b.a] H H3 := ((e01.trans e2).mono fun _ z => nomatch z).trans n3
          have S3 := hS.t g (ExtT.of e03) (bag_nt hb) fun y hy z => nb (by rw [← List.mem_singleton.mp z]; exact hy)
          obtain ⟨dx, l, ha3, hd3, hl3⟩ := S3.bag
          obtain ⟨vs3, hp3, hvs3⟩ := S3.rows
          have hlen3 := hvs3.1
          clear S1 S2 ha1 hd1 hl1 hp1 hvs1 e01 e2
          walk_at "go"
          refine ⟨s'.d, s'.a, c, n, _, rfl, S3.bag, fun p hp => ?_, by omega, fun q ls H4 hq e4 hq4 hls => ?_⟩
          · obtain ⟨ch, t, w', e, _⟩ := (g.ok p hp).2.2
            exact ⟨t, by rw [e]; rfl⟩
          generalize hu : x - 4 = until_ at *
          have hp4 := e4 _ _ hp3 List.not_mem_nil
          have hvs4 := hvs3.t g (ExtT.of e4) fun _ z => nomatch z
          have gf : GoodL (c.filter (oldB until_)) n := ⟨g.asc.filter _, fun p hp => g.ok p (List.mem_filter.mp hp).1⟩
          refine r_mid (fun σ' H' => σ' = [some (.ref b.a), some (.ref s'.sd), some (.ref s'.a), some (.ref s'.p), some (.int n), u5, some (.ref q), some (.int until_), none] ∧ Ext [] H4 H') ?_ ?_
          · walk_at "go"
            refine ⟨_, rfl, ⟨vs3, .inl (.inl hp4)⟩, fun D hD => ?_⟩
            refine r_lcL (xs := vs3) (fun i H5 => ∃ acc : List V, H5 D = some (.lst acc) ∧ acc.length ≤ i ∧ LtAll K H4 acc ((c.take i).filter (oldB until_)) ∧ Ext [] H4 H5) ⟨[], upd_same, Nat.le_refl _, .nil, Ext.refl.new hD⟩ ?_ ?_ ?_
            · rintro i H5 hi ⟨acc, q1, q2, q3, q4⟩
              exact .inl (.inl (q4 _ _ hp4 List.not_mem_nil))
            · rintro i y H5 hy ⟨acc, q1, q2, q3, q4⟩
              have hil := (List.getElem?_eq_some_iff.mp hy).1
              obtain ⟨⟨kk, x'⟩, hq', hx⟩ := hvs4.at_ hy
              obtain ⟨ra, u, w', t, ch, wd, rfl, hs, _, _, _, _, ex⟩ := lt_tup hx (g.ok _ (List.mem_of_getElem? hq')).2.2
              have hs5 := tup0 q4 hs
              have tg : c.take (i + 1) = c.take i ++ [(kk, x')] := by rw [List.take_succ, hq']; rfl
              walk_at "go"
              refine ⟨rfl, ?_⟩
              walk_at "go"
              by_cases hle : t ≤ until_
              · rw [if_pos (decide_eq_true hle)]
                walk_at "go"
                refine ⟨acc, q1, Nat.lt_of_le_of_lt (by omega : acc.length ≤ 4000) (by decide), acc ++ [_], upd_same, by rw [List.length_append]; exact Nat.add_le_add_right q2 1, ?_, q4.own hD⟩
                rw [tg, List.filter_append, show [(kk, x')].filter (oldB until_) = [(kk, x')] by rw [show x' = _ from ex]; simp [oldB, tickD, hle]]
                exact q3.app (.cons hx .nil)
              · rw [if_neg (by simpa using hle)]
                refine ⟨acc, q1, by omega, ?_, q4⟩
                rw [tg, List.filter_append, show [(kk, x')].filter (oldB until_) = [] by rw [show x' = _ from ex]; simpa [oldB, tickD] using hle, List.append_nil]
                exact q3
            · rintro H5 ⟨acc, q1, q2, q3, q4⟩
              rw [hlen3, List.take_length] at q3
              walk_at "go"
              refine k_like (rows_eqd gf n9 (.inl (.inl (q4 _ _ hq4 List.not_mem_nil))) (.inl (.inl q1)) (hls.t gf (ExtT.of q4) fun _ z => nomatch z) (q3.t gf (ExtT.of q4) fun _ z => nomatch z)) fun H6 e6 => ?_
              walk_at "run"
              exact ⟨rfl, q4.trans e6⟩
          · rintro σ' H5 ⟨rfl, e5⟩
            have hq5 := e5 _ _ hq4 List.not_mem_nil
            walk_at "go"
            refine ⟨.inl ⟨rfl, _, .inl (.inl hq5)⟩, ?_⟩
            refine ⟨q, _, rfl, rfl, hq5, ?_⟩
            have e6 : Ext [] H3 (upd H5 q (.lst [])) := (e4.trans e5).own hq
            generalize upd H5 q (.lst []) = H6 at *
            have S6 := S3.t g (ExtT.of e6) (fun _ z => nomatch z) fun _ _ z => nomatch z
            have b6 := b3.x0 e6
            obtain ⟨dx, l, ha6, hd6, hl6⟩ := S6.bag
            obtain ⟨vs6, hp6, hvs6⟩ := S6.rows
            have hlen6 := hvs6.1
            walk_at "go"
            refine ⟨_, rfl, by omega, by omega, fun D hD => ?_⟩
            refine r_lcR (n := ((n : Int) + 2).toNat) (fun i H7 => Ext [] H6 H7 ∧ H7 D = some (.lst ((List.replicate i true).map V.bl))) ⟨Ext.refl.new hD, upd_same⟩ ?_ ?_
            · rintro i H7 hi ⟨q4, q1⟩
              have hp7 := q4 _ _ hp6 List.not_mem_nil
              have ha7 := q4 _ _ ha6 List.not_mem_nil
              have S7 := S6.t g (ExtT.of q4) (fun _ z => nomatch z) fun _ _ z => nomatch z
              walk_at "go"
              refine ⟨rfl, ?_⟩
              walk_at "go"
              refine ⟨s'.a, _, _, rfl, ha7, s'.d, s'.a, c, n, _, _, rfl, S7.bag, .int _, _, rfl, ?_⟩
              rw [if_neg (by decide)]
              walk_at "go"
              refine ⟨s'.p, rfl, ⟨vs6, .inl (.inl hp7)⟩, fun D2 hD2 => ?_⟩
              have hDn : D2 ≠ D := fun z => by rw [z, q1] at hD2; cases hD2
              refine r_lcL (xs := vs6) (fun j H8 => H8 D2 = some (.lst ((c.take j).map fun q => V.int q.1)) ∧ Ext [] H7 H8) ⟨upd_same, Ext.refl.new hD2⟩ (fun j H2 hj z => .inl (.inl (z.2 _ _ hp7 List.not_mem_nil))) ?_ ?_
              · rintro j y H8 hy ⟨z1, z2⟩
                obtain ⟨⟨kk, x'⟩, hq', hx⟩ := (hvs6.t g (ExtT.of (q4.trans z2)) (fun _ z => nomatch z)).at_ hy
                obtain ⟨ya, u, w', t, ch, wd, rfl, hs, _⟩ := lt_tup hx (g.ok _ (List.mem_of_getElem? hq')).2.2
                walk_at "go"
                refine ⟨rfl, ?_⟩
                walk_at "go"
                have hj : j < vs6.length := (List.getElem?_eq_some_iff.mp hy).1
                refine ⟨_, z1, ?_, ?_, z2.own hD2⟩
                · rw [List.length_map, List.length_take]
                  exact Nat.lt_of_le_of_lt (by omega : min j c.length ≤ 4000) (by decide)
                · rw [List.take_succ, hq', List.map_append]
                  exact upd_same
              · rintro H8 ⟨z1, z2⟩
                rw [hlen6, List.take_length] at z1
                refine ⟨D2, _, rfl, .inl (.inl (.inl z1)), rfl, by rw [List.all_map]; exact List.all_eq_true.mpr (fun _ _ => rfl), ?_⟩
                rw [if_neg (by decide), in_nums]
                walk_at "go"
                refine k_like (.bl _ _) fun H9 e9 => ?_
                have hD9 := e9 _ _ (z2 _ _ q1 List.not_mem_nil) List.not_mem_nil
                refine ⟨_, hD9, ?_, ((q4.trans z2).trans e9).own hD, ?_⟩
                · rw [List.length_map, List.length_replicate]
                  exact Nat.lt_of_le_of_lt (by omega : i ≤ 4000) (by decide)
                · rw [List.replicate_succ', List.map_append]
                  exact upd_same
            · rintro H7 ⟨q4, q1⟩
              walk_at "run"
              refine r_all (bs := List.replicate ((n : Int) + 2).toNat true) (.inl (.inl q1)) ?_
              rw [show (List.replicate ((n : Int) + 2).toNat true).all id = true by simp]
              exact k _ (b6.x0 q4) (e03.trans ((e6.trans q4).mono fun _ z => nomatch z))
end
end Yk

set_option maxHeartbeats 8000000
namespace Yk
open PySem PySem.Spec PyProof.Rows L2 L2H LamX

local macro_rules | `(tactic| walk_at "st") => `(tactic| first
  | with_reducible refine' r_tAt ?_
  | ((with_reducible refine' r_fld ?h1 ?h2 ?h3); (case h1 => first | assumption | exact upd_same); (case h2 => first | walk_at "lk" | rfl))
  | with_reducible refine' r_sAt ?_
  | ((with_reducible refine' r_putU ?h1 ?h2); (case h1 => (repeat refine putF_lt ?_); decide))
  | ((with_reducible refine' r_put ?h1 ?h2 ?h3); (case h1 => first | assumption | exact upd_same); (case h2 => (repeat refine putF_lt ?_); decide))
  | with_reducible refine' r_tMt ?_
  | ((with_reducible refine' r_met ?h1 ?h2 ?h3); (case h1 => first | assumption | exact upd_same); (case h2 => first | walk_at "lk" | rfl))
  | with_reducible refine' r_tCr ?_
  | with_reducible refine' r_tCrK ?_
  | with_reducible refine' r_chain ?_)
local macro_rules | `(tactic| walk_at "st") => `(tactic| first
  | with_reducible refine' r_dget ?_
  | with_reducible refine' r_dc ?_
  | with_reducible refine' r_iVals ?_
  | with_reducible refine' r_dnotin ?_
  | with_reducible refine' r_din ?_
  | with_reducible refine' r_iItems ?_
  | with_reducible refine' r_iKeysT ?_
  | with_reducible refine' r_tget1 ?_
  | with_reducible refine' r_tget2 ?_
  | with_reducible refine' r_dput ?_
  | with_reducible refine' r_tPr ?_
  | ((with_reducible refine' r_prp2 ?h1 ?h2); (case h1 => first | assumption | exact upd_same))
  | with_reducible refine' r_par3 ?_
  | ((with_reducible refine' r_dnT ?_); (intro np hnp))
  | ((with_reducible refine' r_dnK ?_); (intro np hnp)))
/-! Equal bags. -/
local macro_rules | `(tactic| walk_at "lk") => `(tactic| first | with_reducible exact lk_Lb_letters | with_reducible exact lk_Lb_coming | exact lk_Lb_no (by decide +kernel) (by decide +kernel))
theorem asc_ext : ∀ {c d : List (Int × PyData)}, (c.Pairwise fun p q => p.1 < q.1) → (d.Pairwise fun p q => p.1 < q.1) → (∀ p, p ∈ c ↔ p ∈ d) → c = d
  | [], [], _, _, _ => rfl
  | [], q :: d, _, _, h => by have := (h q).mpr List.mem_cons_self; cases this
  | p :: c, [], _, _, h => by have := (h p).mp List.mem_cons_self; cases this
  | p :: c, q :: d, hc, hd, h => by
    obtain ⟨c1, c2⟩ := List.pairwise_cons.mp hc
    obtain ⟨d1, d2⟩ := List.pairwise_cons.mp hd
    have e : p = q := by
      rcases List.mem_cons.mp ((h p).mp List.mem_cons_self) with e | e
      · exact e
      · rcases List.mem_cons.mp ((h q).mpr List.mem_cons_self) with e2 | e2
        · exact e2.symm
        · have := d1 _ e
          have := c1 _ e2
          omega
    subst e
    rw [asc_ext c2 d2 fun x => ⟨fun hx => ?_, fun hx => ?_⟩]
    · rcases List.mem_cons.mp ((h x).mp (List.mem_cons_of_mem _ hx)) with e | e
      · have := c1 _ hx; rw [e] at this; omega
      · exact e
    · rcases List.mem_cons.mp ((h x).mpr (List.mem_cons_of_mem _ hx)) with e | e
      · have := d1 _ hx; rw [e] at this; omega
      · exact e
def kd (c : List (Int × PyData)) : List (Key × PyData) := c.map fun p => ((.inl p.1 : Key), p.2)
theorem eqvK_len {c d : List (Int × PyData)} (h : c.length ≠ d.length) : eqvK (kd c) (kd d) = false := by
  unfold eqvK kd
  rw [List.length_map, List.length_map, show (c.length == d.length) = false by simpa using h, Bool.false_and]
theorem eqvK_self {c : List (Int × PyData)} {n : Nat} (g : GoodL c n) : eqvK (kd c) (kd c) = true := by
  unfold eqvK kd
  rw [Bool.and_eq_true_iff]
  refine ⟨by simp, List.all_eq_true.mpr fun p hp => ?_⟩
  obtain ⟨q, hq, rfl⟩ := List.mem_map.mp hp
  have hL := (g.ok q hq).2.2
  have e : ((c.map fun p => ((Sum.inl p.1 : Key), p.2)).find? fun r => decide (r.1 = Sum.inl q.1)) = some (Sum.inl q.1, q.2) := by
    rw [List.find?_map]
    have hg : gv c q.1 = some q.2 := (gv_iff g.nd).mpr hq
    unfold gv at hg
    cases hf : c.find? fun p => decide (p.1 = q.1) with
    | none => rw [hf] at hg; cases hg
    | some r =>
      have h1 := List.find?_some hf
      rw [hf] at hg
      have h2 : r.2 = q.2 := Option.some.inj hg
      have h3 : ((fun r : Key × PyData => decide (r.1 = Sum.inl q.1)) ∘ fun p : Int × PyData => ((Sum.inl p.1 : Key), p.2)) = fun p : Int × PyData => decide (p.1 = q.1) := by
        funext p
        show decide ((Sum.inl p.1 : Key) = Sum.inl q.1) = decide (p.1 = q.1)
        exact decide_eq_decide.mpr ⟨fun z => Sum.inl.inj z, fun z => by rw [z]⟩
      rw [h3, hf]
      show some ((Sum.inl r.1 : Key), r.2) = _
      rw [h2, of_decide_eq_true h1]
  dsimp only
  rw [e]
  exact SeqAt.eqv_refl _ (let_ok hL).lay
theorem ext_fresh {S T : List Addr} {H H1 H2 : Hp} (e : Ext S H H1) (e2 : Ext T H1 H2) (hT : ∀ x ∈ T, H x = none) : Ext S H H2 := fun b o h n => e2 _ _ (e b o h n) fun z => by rw [hT _ z] at h; cases h
/-- what stays while the other bag is filled -/
structure EqC (K : PySem.W.Frag) (b : Bag) (s : Sd) (a2 d2 kn : Addr) (HH : Hp) : Prop where
  nb : b.a ∉ s.own
  n2 : ∀ x ∈ [a2, d2], HH x = none
  nk : HH kn = none
  ka : kn ≠ a2
  kd : kn ≠ d2
  ad : a2 ≠ d2
  ex : BagAt K HH b
structure EqW (cB : Addr) (K : PySem.W.Frag) (b : Bag) (s : Sd) (c : List (Int × PyData)) (n : Nat) (a2 d2 kn : Addr) (HH : Hp) (c2 : List (Int × PyData)) (n2 : Nat) (H : Hp) : Prop where
  e : Ext [b.a] HH H
  b : BagAt K H b
  s0 : SideAt cB K HH s c n
  s : SideAt cB K H s c n
  o : LbAt cB K H d2 a2 c2 n2
  g2 : GoodL c2 n2
  k : H kn = some (.lst (c.map fun q => V.int q.1))
section
variable {cB : Addr} {K : PySem.W.Frag} {b : Bag} {s : Sd} {c c2 c3 : List (Int × PyData)} {n n2 n3 : Nat} {a2 d2 kn : Addr} {HH H H1 : Hp}
theorem EqC.bne (C : EqC K b s a2 d2 kn HH) {x : Addr} (h : HH x = none) : x ≠ b.a := fun z => by
  obtain ⟨l, hl⟩ := C.ex.lst
  rw [z, hl] at h
  cases h
theorem EqW.bg (W : EqW cB K b s c n a2 d2 kn HH c2 n2 H) (C : EqC K b s a2 d2 kn HH) (g : GoodL c n) (e : Ext [b.a] H H1) (b1 : BagAt K H1 b) : EqW cB K b s c n a2 d2 kn HH c2 n2 H1 :=
  ⟨W.e.trans e, b1, W.s0, W.s.t g (ExtT.of e) (bag_nt W.b) fun x hx z => C.nb (by rw [← List.mem_singleton.mp z]; exact hx), W.o.t W.g2 (ExtT.of e) (bag_nt W.b) (by simpa using C.bne (C.n2 a2 (by simp))) (by simpa using C.bne (C.n2 d2 (by simp))), W.g2, e _ _ W.k (by simpa using C.bne C.nk)⟩
theorem EqW.x0 (W : EqW cB K b s c n a2 d2 kn HH c2 n2 H) (C : EqC K b s a2 d2 kn HH) (g : GoodL c n) (e : Ext [] H H1) : EqW cB K b s c n a2 d2 kn HH c2 n2 H1 := W.bg C g (e.mono fun _ z => nomatch z) (W.b.x0 e)
theorem EqW.no (W : EqW cB K b s c n a2 d2 kn HH c2 n2 H) (C : EqC K b s a2 d2 kn HH) : ∀ x ∈ s.own, x ∉ [a2, d2] := fun x hx z => by
  have h0 := C.n2 x z
  obtain ⟨o, ho, _⟩ := W.s0.nt x hx
  rw [ho] at h0
  cases h0
theorem EqW.oth (W : EqW cB K b s c n a2 d2 kn HH c2 n2 H) (C : EqC K b s a2 d2 kn HH) (g : GoodL c n) (e : Ext [a2, d2] H H1) (o : LbAt cB K H1 d2 a2 c3 n3) (g3 : GoodL c3 n3) : EqW cB K b s c n a2 d2 kn HH c3 n3 H1 := by
  obtain ⟨dx, l, h1, h2, _⟩ := W.o
  have nt : NoTup H [a2, d2] := fun y hy => by
    rcases List.mem_cons.mp hy with rfl | hy
    · exact (no_ins h1).1 _ (by simp)
    · exact (no_dk h2).1 _ (by simpa using hy)
  refine ⟨ext_fresh W.e e C.n2, W.b.f e fun y hy => ?_, W.s0, W.s.t g (ExtT.of e) nt (W.no C), o, g3, e _ _ W.k (by simp [C.ka, C.kd])⟩
  rcases List.mem_cons.mp hy with rfl | hy
  · exact (no_ins h1).2 _ (by simp)
  · exact (no_dk h2).2 _ (by simpa using hy)
end
theorem eq_bags {cB : Addr} {K : PySem.W.Frag} {H : Hp} {Q : VK} {d a d2 a2 : Addr} {c c2 : List (Int × PyData)} {n n2 : Nat} (h1 : LbAt cB K H d a c n) (h2 : LbAt cB K H d2 a2 c2 n2) (k : Q (.bl (eqvK (kd c) (kd c2) && decide (n = n2))) H) : rEqO K cB (spLbEq cB K) (.ref a) (.ref a2) H Q := by
  obtain ⟨dx, l, q1, q2, q3⟩ := id h1
  obtain ⟨dx2, l2, r1, r2, r3⟩ := id h2
  exact ⟨a, dx, _, rfl, q1, .inl ⟨a2, dx2, _, rfl, r1⟩, d, a, d2, a2, c, c2, n, n2, rfl, h1, h2, _, rfl, k⟩
section
variable {P : Program} {w : World} {K : PySem.W.Frag} {mg : Str → Option Value} {base : Heap} {f : Addr} {fd : FuncData}
abbrev s_law_equal : Stmt := top 21
theorem c_law_equal : FnScope ["_law_bag_here", "_law_side", "_law_told", "_law_rows", "_law_count", "_law_other", "_law_known", "_law_row", "_law_k", "_law_fewer"] ["_law_bag_here", "_law_side"] (defScope s_law_equal) := ⟨rfl, rfl, rfl, by decide +kernel, rfl, by decide +kernel, by decide +kernel⟩
theorem f_law_equal (F : FunD K "_law_equal" "_law_equal" (defArgs s_law_equal) (defBody s_law_equal) (defScope s_law_equal) [] [] f fd) (hm : mg "_law_equal" = some (.ref f)) {cB : Addr} (T : Bt mg) (TBag : Ct K mg "Bag" cB ["_letters", "_coming"]) (uBag : PySem.W.subIn K (.type "list") (.ref cB) = some false) (RBag : Cr P w K mg base 1 "Bag" cB (spLbInit cB)) (F_law_draw : Fn P w K mg base 1 "_law_draw" (spDraw K)) (F_law_of : Fn P w K mg base 2 "_law_of" (spOf K)) (F_law_mixed : Fn P w K mg base 2 "_law_mixed" (spMixed K)) (F_law_chan : Fn P w K mg base 3 "_law_chan" (spChanK K)) (F_law_same : Fn P w K mg base 5 "_law_same" (spLike K 5)) (MBag_put : Mt P w K mg base 1 cB "put" (spLbPut cB K)) (MBag_take : Mt P w K mg base 4 cB "take" (spLbTake cB K)) (MBag_copy : Mt P w K mg base 3 cB "copy" (spLbCopy cB K)) (SBag_eq : SmF P w K mg base 1 cB "__eq__" (spLbEq cB K)) (SBag_eqx : SmF P w K mg base 1 cB "__eq__" (spLbNe cB K)) (SBag_len : SmF P w K mg base 1 cB "__len__" (spLbLen cB K)) : Fn P w K mg base 6 "_law_equal" (spLookB cB K) := by
  refine fn_def F hm c_law_equal (fun vs H Q E h => ?_) (fun _ _ _ _ _ _ us hl => match us, hl with | [_, _], _ => rfl) (fun cdv A outer s H vs Q E hr h => ?_)
  · obtain ⟨b, s, c, n, rfl, _⟩ := h
    rfl
  · obtain ⟨b, s', c, n, rfl, hb, hS, g, n9, nd', nb, k⟩ := h
    have nd := c_law_equal.nd
    refine ⟨_, (pss_mid (ps_par3 (i := 2) (j := 3) (l := 4) (by rfl) nd rfl rfl rfl (by decide) (by decide) (by decide) rfl rfl rfl (pa_cons (pe_ix ix_list (pv 1) pe_int (fun _ _ => rfl)) (pa_cons (pe_ix ix_list (pv 1) pe_int (fun _ _ => rfl)) (pa_cons (pe_ix ix_list (pv 1) pe_int (fun _ _ => rfl)) pa_nil))) (by rfl))
      (pss_mid (ps_asg (pe_tup (pa_cons (pe_cr0 RBag (hr.mono (by decide))) (pa_cons (pe_lc (own := [("_law_row", 7)]) (g := gName 7) rfl nd (pi_list (pv 3)) (blkOk_by (N := ["_law_bag_here", "_law_side", "_law_told", "_law_rows", "_law_count", "_law_other", "_law_known", "_law_row", "_law_k", "_law_fewer"]) (sc := defScope s_law_equal) (by decide +kernel)) (fun _ _ _ _ _ => pg_name (i := 7) nd rfl (Or.inl rfl)) (fun _ _ _ _ _ => pts_nil) (fun _ _ _ _ _ => (pe_ix ix_tup (pv 7) pe_int (fun _ _ => rfl) : PE _ _ (tOp (rIxT K) _ _)))) pa_nil))) (pg_tup rfl (pgs_cons (pg_name (i := 5) nd rfl (by first | exact Or.inl rfl | exact Or.inr rfl)) (pgs_cons (pg_name (i := 6) nd rfl (by first | exact Or.inl rfl | exact Or.inr rfl)) pgs_nil))))
      (pss_mid (ps_for PassesOwn.never rfl (pi_range1 rfl T.range (pa_cons (pv 4) pa_nil)) (pg_name (i := 8) nd rfl (by first | exact Or.inl rfl | exact Or.inr rfl))
        (pss_cons (ps_set (i := 7) nd rfl (by first | exact Or.inl rfl | exact Or.inr rfl) (pe_ifExp (pt_cmpR op_in_seq (pv 8) (pv 6) (by rfl)) (pe_ix ix_list (pv 3) (pe_bm PySem.F.plainAttrs_list PySem.F.slot_list_index PySem.F.type_list_index mt_index (pv 6) (pa_cons (pv 8) pa_nil)) (fun _ _ => rfl)) (pe_tup (pa_cons (pv 8) (pa_cons (pe_fn F_law_chan (hr.mono (by decide)) (pa_cons (pv 0) pa_nil)) (pa_cons pe_int (pa_cons (pe_tup (pa_cons pe_int (pa_cons pe_int pa_nil))) pa_nil)))))))
        (pss_one (ps_expr (pe_mt MBag_put (hr.mono (by decide)) (pv 5) (pa_cons (pe_ix ix_tup (pv 7) pe_int (fun _ _ => rfl)) (pa_cons (pe_ix ix_tup (pv 7) pe_int (fun _ _ => rfl)) (pa_cons (pe_ix ix_tup (pv 7) pe_int (fun _ _ => rfl)) pa_nil))))))))
      (pss_mid (ps_for PassesOwn.never rfl (pi_list (pe_fn F_law_mixed (hr.mono (by decide)) (pa_cons (pv 0) (pa_cons (pe_lc (own := [("_law_k", 8)]) (g := gName 8) rfl nd (pi_range1 rfl T.range (pa_cons (pv 4) pa_nil)) (blkOk_by (N := ["_law_bag_here", "_law_side", "_law_told", "_law_rows", "_law_count", "_law_other", "_law_known", "_law_row", "_law_k", "_law_fewer"]) (sc := defScope s_law_equal) (by decide +kernel)) (fun _ _ _ _ _ => pg_name (i := 8) nd rfl (Or.inl rfl)) (fun _ _ _ _ _ => (pts_one (pt_cmpR op_notIn_seq (pv 8) (pv 6) (by rfl) : PT _ _ (tTest (tOp (rIn K true) _ _))))) (fun _ _ _ _ _ => (pv 8))) pa_nil)))) (pg_name (i := 8) nd rfl (by first | exact Or.inl rfl | exact Or.inr rfl))
        (pss_one (ps_expr (pe_mt MBag_take (hr.mono (by decide)) (pv 5) (pa_cons (pv 8) pa_nil)))))
      (pss_mid (ps_if (PW.pt (pw_or (pt_not (pt_val (pe_fn F_law_same (hr.mono (by decide)) (pa_cons (pe_cmpR (op_eqO SBag_eq (hr.mono (by decide))) (pv 2) (pv 5) (nomark _)) (pa_cons pe_bl pa_nil))))) (pw_or (pt_not (pt_val (pe_fn F_law_same (hr.mono (by decide)) (pa_cons (pe_cmpR (op_eqO SBag_eq (hr.mono (by decide))) (pv 5) (pv 2) (nomark _)) (pa_cons pe_bl pa_nil))))) (pw_or1 (pt_not (pt_val (pe_fn F_law_same (hr.mono (by decide)) (pa_cons (pe_cmpR (op_eqO SBag_eqx (hr.mono (by decide))) (pv 2) (pv 3) (nomark _)) (pa_cons pe_bl pa_nil)))))))))
        (pss_one (ps_ret pe_bl))
        pss_nil)
      (pss_mid (ps_set (i := 9) nd rfl (by first | exact Or.inl rfl | exact Or.inr rfl) (pe_mt0 MBag_copy (hr.mono (by decide)) (pv 2)))
      (pss_mid (ps_if (pt_cmpR (op_neD hr.units) (pv 3) (pe_lst pa_nil) (nomark _))
        (pss_cons (ps_set (i := 7) nd rfl (by first | exact Or.inl rfl | exact Or.inr rfl) (pe_fn F_law_of (hr.mono (by decide)) (pa_cons (pv 0) (pa_cons (pv 3) pa_nil))))
        (pss_cons (ps_expr (pe_mt MBag_take (hr.mono (by decide)) (pv 9) (pa_cons (pe_ix ix_tup (pv 7) pe_int (fun _ _ => rfl)) pa_nil)))
        (pss_one (ps_if (PW.pt (pw_or (pt_not (pt_val (pe_fn F_law_same (hr.mono (by decide)) (pa_cons (pe_cmpR (op_eqO SBag_eq (hr.mono (by decide))) (pv 2) (pv 9) (nomark _)) (pa_cons pe_bl pa_nil))))) (pw_or1 (pt_not (pt_val (pe_fn F_law_same (hr.mono (by decide)) (pa_cons (pe_callB (call_lenO SBag_len (hr.mono (by decide))) (by rfl) T.len (by decide +kernel) (pa_cons (pv 2) pa_nil)) (pa_cons (pe_callB cr_len (by rfl) T.len (by decide +kernel) (pa_cons (pv 3) pa_nil)) pa_nil))))))))
          (pss_one (ps_ret pe_bl))
          pss_nil))))
        pss_nil)
      (pss_mid (ps_if (PW.pt (pw_or (pt_not (pt_val (pe_fn F_law_same (hr.mono (by decide)) (pa_cons (pe_mt MBag_put (hr.mono (by decide)) (pv 5) (pa_cons (pe_fn F_law_chan (hr.mono (by decide)) (pa_cons (pv 0) pa_nil)) (pa_cons pe_int (pa_cons (pe_tup (pa_cons pe_int (pa_cons pe_int pa_nil))) pa_nil)))) (pa_cons (pv 4) pa_nil))))) (pw_or1 (pt_not (pt_val (pe_fn F_law_same (hr.mono (by decide)) (pa_cons (pe_cmpR (op_eqO SBag_eq (hr.mono (by decide))) (pv 2) (pv 5) (nomark _)) (pa_cons pe_bl pa_nil))))))))
        (pss_one (ps_ret pe_bl))
        pss_nil)
      (pss_cons (ps_expr (pe_mt MBag_take (hr.mono (by decide)) (pv 5) (pa_cons (pv 4) pa_nil)))
      (pss_one (ps_ret (pe_and (pe_fn F_law_same (hr.mono (by decide)) (pa_cons (pe_cmpR (op_eqO SBag_eq (hr.mono (by decide))) (pv 2) (pv 5) (nomark _)) (pa_cons pe_bl pa_nil))) (pe_one (pe_fn F_law_same (hr.mono (by decide)) (pa_cons (pe_cmpR (op_eqO SBag_eq (hr.mono (by decide))) (pv 2) (pe_mt0 MBag_copy (hr.mono (by decide)) (pv 2)) (nomark _)) (pa_cons pe_bl pa_nil)))))))))))))))), ?_⟩
    show (_ : TS) _ [some _, some _, none, none, none, none, none, none, none, none] _
    try dsimp only [cxOf, Cx.nox]
    have hl : SqL K H s'.sd [.ref s'.a, .ref s'.p, .int (n : Int)] := .inl (.inl hS.lst)
    have hgl := g.len
    refine r_mid (fun σ' H' => σ' = [some (.ref b.a), some (.ref s'.sd), some (.ref s'.a), some (.ref s'.p), some (.int n), none, none, none, none, none] ∧ H' = H) ?_ ?_
    · walk_at "go"
      refine ⟨_, _, _, rfl, ?_⟩
      exact ⟨rfl, rfl⟩
    rintro σ' H0 ⟨rfl, rfl⟩
    refine r_mid (fun σ' H' => ∃ a2 d2 kn, σ' = [some (.ref b.a), some (.ref s'.sd), some (.ref s'.a), some (.ref s'.p), some (.int n), some (.ref a2), some (.ref kn), none, none, none] ∧ EqC K b s' a2 d2 kn H0 ∧ EqW cB K b s' c n a2 d2 kn H0 [] 0 H') ?_ ?_
    · walk_at "go"
      intro x dx' hx hdx hne
      refine ⟨x, dx', rfl, upd_same, fun d2 hd2 hne2 => ⟨rfl, ?_⟩⟩
      have hdd : d2 ≠ dx' := fun z => by rw [z, upd_ne hne, upd_same] at hd2; cases hd2
      have hd20 : H0 d2 = none := by rw [upd_ne hne2, upd_ne hdd] at hd2; exact hd2
      have e1 : Ext [] H0 (upd (upd (upd (upd H0 dx' (.own x)) x (.ins cB dx' [])) d2 (.dK [])) x (.ins cB dx' (LbFs d2 0))) := (((Ext.refl.new hdx).own hx).own hd20).own hx
      have hx1 : upd (upd (upd (upd H0 dx' (.own x)) x (.ins cB dx' [])) d2 (.dK [])) x (.ins cB dx' (LbFs d2 0)) x = some (.ins cB dx' (LbFs d2 0)) := upd_same
      have hd21 : upd (upd (upd (upd H0 dx' (.own x)) x (.ins cB dx' [])) d2 (.dK [])) x (.ins cB dx' (LbFs d2 0)) d2 = some (.dK []) := by rw [upd_ne hne2, upd_same]
      generalize upd (upd (upd (upd H0 dx' (.own x)) x (.ins cB dx' [])) d2 (.dK [])) x (.ins cB dx' (LbFs d2 0)) = H1 at *
      have S1 := hS.t g (ExtT.of e1) (fun _ z => nomatch z) fun _ _ z => nomatch z
      obtain ⟨vs, hp1, hvs⟩ := S1.rows
      have hlen := hvs.1
      walk_at "go"
      refine ⟨s'.p, rfl, ⟨vs, .inl (.inl hp1)⟩, fun D hD => ?_⟩
      have hDn : H0 D = none := by
        cases h : H0 D with
        | none => rfl
        | some o => rw [e1 _ _ h List.not_mem_nil] at hD; cases hD
      refine r_lcL (xs := vs) (fun j H8 => H8 D = some (.lst ((c.take j).map fun q => V.int q.1)) ∧ Ext [] H1 H8) ⟨upd_same, Ext.refl.new hD⟩ (fun j H2 hj z => .inl (.inl (z.2 _ _ hp1 List.not_mem_nil))) ?_ ?_
      · rintro j y H8 hy ⟨z1, z2⟩
        obtain ⟨⟨kk, x'⟩, hq', hx'⟩ := (hvs.t g (ExtT.of z2) (fun _ z => nomatch z)).at_ hy
        obtain ⟨ya, u, w', t, ch, wd, rfl, hs, _⟩ := lt_tup hx' (g.ok _ (List.mem_of_getElem? hq')).2.2
        walk_at "go"
        refine ⟨rfl, ?_⟩
        walk_at "go"
        have hj : j < vs.length := (List.getElem?_eq_some_iff.mp hy).1
        refine ⟨_, z1, ?_, ?_, z2.own hD⟩
        · rw [List.length_map, List.length_take]
          exact Nat.lt_of_le_of_lt (by omega : min j c.length ≤ 4000) (by decide)
        · rw [List.take_succ, hq', List.map_append]
          exact upd_same
      · rintro H8 ⟨z1, z2⟩
        rw [hlen, List.take_length] at z1
        walk_at "go"
        rename_i t ht
        have e3 : Ext [] H8 (upd H8 t (.tup [.ref x, .ref D])) := Ext.refl.new ht
        have e03 := e1.trans (z2.trans e3)
        refine ⟨x, d2, D, rfl, ⟨nb, (fun y hy => ?_), hDn, (fun z => ?_), (fun z => ?_), Ne.symm hne2, hb⟩, ⟨e03.mono (fun _ z => nomatch z), hb.x0 e03, hS, hS.t g (ExtT.of e03) (fun _ z => nomatch z) (fun _ _ z => nomatch z), ⟨dx', [], e3 _ _ (z2 _ _ hx1 List.not_mem_nil) List.not_mem_nil, e3 _ _ (z2 _ _ hd21 List.not_mem_nil) List.not_mem_nil, .nil⟩, ⟨.nil, (fun p hp => by cases hp)⟩, e3 _ _ z1 List.not_mem_nil⟩⟩
        · simp only [List.mem_cons, List.not_mem_nil, or_false] at hy
          rcases hy with rfl | rfl
          · exact hx
          · exact hd20
        · rw [z, hx1] at hD; cases hD
        · rw [z, hd21] at hD; cases hD
    rintro σ' H1 ⟨a2, d2, kn, rfl, C, W1⟩
    -- the other bag is filled
    refine r_mid (fun σ' H' => (∃ u7 u8, σ' = [some (.ref b.a), some (.ref s'.sd), some (.ref s'.a), some (.ref s'.p), some (.int n), some (.ref a2), some (.ref kn), u7, u8, none]) ∧ ∃ c2, EqW cB K b s' c n a2 d2 kn H0 c2 n H' ∧ (∀ i : Int, 0 ≤ i → i < n → ∃ x, (i, x) ∈ c2) ∧ ∀ p ∈ c, p ∈ c2) ?_ ?_
    · refine r_for ?_
      walk_at "go"
      refine ⟨_, rfl, by omega, by omega, ?_⟩
      refine r_loopR (n := n) (fun i σ H2 => (∃ u7 u8, σ = [some (.ref b.a), some (.ref s'.sd), some (.ref s'.a), some (.ref s'.p), some (.int n), some (.ref a2), some (.ref kn), u7, u8, none]) ∧ ∃ c2, EqW cB K b s' c n a2 d2 kn H0 c2 i H2 ∧ (∀ j : Int, 0 ≤ j → j < i → ∃ x, (j, x) ∈ c2) ∧ ∀ p ∈ c, p.1 < i → p ∈ c2) ⟨⟨_, _, rfl⟩, [], W1, fun j h0 h1 => by omega, fun p hp h => by have := (g.ok p hp).1; omega⟩ ?_ ?_
      · rintro i σ H2 hi ⟨⟨u7, u8, rfl⟩, c2, W2, f1, f2⟩
        walk_at "go"
        have hgl2 := W2.g2.len
        obtain ⟨dx2, l2, ha2, hd2, hl2⟩ := W2.o
        obtain ⟨vs, hp2, hvs⟩ := W2.s.rows
        have hlen := hvs.1
        refine ⟨kn, _, rfl, .inl (.inl (.inl W2.k)), rfl, by rw [List.all_map]; exact List.all_eq_true.mpr (fun _ _ => rfl), ?_⟩
        rw [if_neg (by decide), in_nums]
        -- what the put does
        have put : ∀ (H3 : Hp) (x : PyData), EqW cB K b s' c n a2 d2 kn H0 c2 i H3 → IsL i x → (∀ p ∈ c, p.1 = (i : Int) → p = ((i : Int), x)) → ∀ H4, Ext [a2, d2] H3 H4 → LbAt cB K H4 d2 a2 (gp c2 (i : Int) x) (i + 1) →
            ∃ c2, EqW cB K b s' c n a2 d2 kn H0 c2 (i + 1) H4 ∧ (∀ j : Int, 0 ≤ j → j < ((i + 1 : Nat) : Int) → ∃ x, (j, x) ∈ c2) ∧ ∀ p ∈ c, p.1 < ((i + 1 : Nat) : Int) → p ∈ c2 := fun H3 x W3 hx hxc H4 e4 L4 => by
          rw [W2.g2.gp x] at L4
          refine ⟨_, W3.oth C g e4 L4 (W2.g2.snoc hx), fun j h0 h1 => ?_, fun p hp h => ?_⟩
          · by_cases hj : j < i
            · obtain ⟨y, hy⟩ := f1 j h0 hj
              exact ⟨y, List.mem_append_left _ hy⟩
            · obtain rfl : j = i := by omega
              exact ⟨x, by simp⟩
          · by_cases hj : p.1 < i
            · exact List.mem_append_left _ (f2 p hp hj)
            · rw [hxc p hp (by omega)]
              simp
        have i0 : (0 : Int) + (i : Int) = (i : Int) := by omega
        cases hg : gv c (0 + (i : Int)) with
        | some x =>
          rw [i0] at hg
          have hm := (gv_iff g.nd).mp hg
          obtain ⟨j, hj, hje⟩ := List.getElem_of_mem hm
          have hL : IsL i x := (g.ok _ hm).2.2
          walk_at "run"
          refine ⟨.inl ⟨rfl, _, .inl (.inl W2.k)⟩, ?_⟩
          walk_at "go"
          have hcj : c[j]? = some ((i : Int), x) := by rw [List.getElem?_eq_getElem hj, hje]
          refine ⟨kn, _, _, j, .int (i : Int), rfl, rfl, .inl (.inl W2.k), rfl, by rw [List.all_map]; exact List.all_eq_true.mpr (fun _ _ => rfl), by rw [List.getElem?_map, hcj]; rfl, by rw [i0]; exact decide_eq_true rfl, fun m z' hm' hz => ?_, ?_⟩
          · rw [List.getElem?_map] at hz
            cases hcm : c[m]? with
            | none => rw [hcm] at hz; cases hz
            | some q =>
              rw [hcm] at hz
              cases hz
              obtain ⟨hmc, e⟩ := List.getElem?_eq_some_iff.mp hcm
              have q1 := List.pairwise_iff_getElem.mp g.asc m j hmc hj hm'
              rw [e, hje] at q1
              dsimp only at q1
              rw [i0]
              exact decide_eq_false (by omega)
          have hjv : j < vs.length := by omega
          obtain ⟨v, hv⟩ : ∃ v, vs[j]? = some v := ⟨vs[j], List.getElem?_eq_getElem hjv⟩
          obtain ⟨q, hq, hlt⟩ := hvs.at_ hv
          rw [hcj] at hq
          cases hq
          obtain ⟨ya, u, w', t, ch, wd, rfl, hs, hu, hw, hch, hwd, rfl⟩ := lt_tup hlt hL
          refine r_ixL (.inl (.inl hp2)) (at_n (by omega) hv) ?_
          walk_at "go"
          refine ⟨d2, a2, c2, i, u, _, w', ch, .int t, wd, rfl, W2.o, by omega, by omega, hu, .int _, hw, (let_ok hL).shaped, fun H4 e4 L4 => ?_⟩
          walk_at "go"
          refine ⟨⟨_, _, rfl⟩, put H2 _ W2 hL (fun p hp e => ?_) H4 e4 L4⟩
          have h1 := (gv_iff g.nd).mpr (show (p.1, p.2) ∈ c from hp)
          rw [e, hg] at h1
          exact Prod.ext e (Option.some.inj h1).symm
        | none =>
          rw [i0] at hg
          walk_at "run"
          refine ⟨b, rfl, W2.b, fun v1 x1 H3 d1 m1 b3 n3 => ?_⟩
          have W3 := W2.bg C g n3 b3
          walk_at "go"
          rename_i t1 ht1 t2 ht2
          have hX : IsL i (.tuple [.int (i : Int), x1, .int 7, amDt 1]) := ⟨x1, 7, amDt 1, rfl, m1, .am 1⟩
          generalize hG : upd _ t2 _ = H5
          have e5 : Ext [] H3 H5 := by rw [← hG]; exact (Ext.refl.new ht1).new ht2
          have hs1 : SqT K H5 t1 [.int 1, .int 1] := by rw [← hG]; walk_at "sq"
          have hs2 : SqT K H5 t2 [.int (0 + (i : Int)), v1, .int 7, .ref t1] := by rw [← hG]; walk_at "sq"
          clear hG
          have W5 := W3.x0 C g e5
          obtain ⟨dx5, l5, ha5, hd5, hl5⟩ := W5.o
          walk_at "go"
          refine ⟨d2, a2, c2, i, v1, _, _, x1, .int 7, amDt 1, rfl, W5.o, by omega, by omega, dpx0 e5 d1, .int _, .tup hs1 (.cons (.int _) (.cons (.int _) .nil)), (let_ok hX).shaped, fun H6 e6 L6 => ?_⟩
          walk_at "go"
          refine ⟨⟨_, _, rfl⟩, put H5 _ W5 hX (fun p hp e => ?_) H6 e6 L6⟩
          exact absurd e (fun e => by
            have h1 := (gv_iff g.nd).mpr (show (p.1, p.2) ∈ c from hp)
            rw [e, hg] at h1
            cases h1)
      · rintro σ H2 ⟨⟨u7, u8, rfl⟩, c2, W2, f1, f2⟩
        exact ⟨⟨u7, u8, rfl⟩, c2, W2, f1, fun p hp => f2 p hp (g.ok p hp).2.1⟩
    rintro σ' H2 ⟨⟨u7, u8, rfl⟩, c2, W2, f1, f2⟩
    refine r_mid (fun σ' H' => (∃ u7 u8, σ' = [some (.ref b.a), some (.ref s'.sd), some (.ref s'.a), some (.ref s'.p), some (.int n), some (.ref a2), some (.ref kn), u7, u8, none]) ∧ EqW cB K b s' c n a2 d2 kn H0 c n H') ?_ ?_
    · refine r_for ?_
      walk_at "go"
      refine ⟨_, rfl, by omega, by omega, fun D hD => ?_⟩
      refine r_lcR (n := n) (fun i H3 => ∃ gs : List Int, H3 D = some (.lst (gs.map V.int)) ∧ gs.length ≤ i ∧ (∀ x, x ∈ gs ↔ (0 ≤ x ∧ x < i ∧ gv c x = none)) ∧ gs.Nodup ∧ Ext [] H2 H3) ⟨[], upd_same, Nat.le_refl _, (fun x => ⟨(fun z => by cases z), (fun z => by omega)⟩), .nil, Ext.refl.new hD⟩ ?_ ?_
      · rintro i H3 hi ⟨gs, q1, q2, q3, q4, q5⟩
        have hk3 := q5 _ _ W2.k List.not_mem_nil
        walk_at "go"
        refine ⟨rfl, ?_⟩
        walk_at "go"
        refine ⟨kn, _, rfl, .inl (.inl (.inl hk3)), rfl, by rw [List.all_map]; exact List.all_eq_true.mpr (fun _ _ => rfl), _, rfl, ?_⟩
        have i0 : (0 : Int) + (i : Int) = (i : Int) := by omega
        rw [if_pos rfl, in_nums, i0]
        cases hg : gv c (i : Int) with
        | none =>
          rw [if_pos (by rfl)]
          walk_at "go"
          refine ⟨_, q1, by rw [List.length_map]; exact Nat.lt_of_le_of_lt (by omega : gs.length ≤ 4000) (by decide), gs ++ [(i : Int)], by rw [List.map_append]; exact upd_same, by rw [List.length_append]; exact Nat.add_le_add_right q2 1, fun x => ?_, ?_, q5.own hD⟩
          · rw [List.mem_append, List.mem_singleton, q3]
            refine ⟨fun z => ?_, fun z => ?_⟩
            · rcases z with z | rfl
              · exact ⟨z.1, by omega, z.2.2⟩
              · exact ⟨by omega, by omega, hg⟩
            · by_cases e : x = i
              · exact .inr e
              · exact .inl ⟨z.1, by omega, z.2.2⟩
          · rw [List.nodup_append]
            refine ⟨q4, by simp, fun x hx y hy e => ?_⟩
            have := (q3 x).mp hx
            have := List.mem_singleton.mp hy
            omega
        | some y =>
          rw [if_neg (by simp)]
          refine ⟨gs, q1, by omega, fun x => ?_, q4, q5⟩
          rw [q3]
          refine ⟨fun z => ⟨z.1, by omega, z.2.2⟩, fun z => ⟨z.1, ?_, z.2.2⟩⟩
          have : x ≠ i := fun e => by rw [e, hg] at z; cases z.2.2
          omega
      · rintro H3 ⟨gs, q1, q2, q3, q4, q5⟩
        have W3 := W2.x0 C g q5
        have hbD : b.a ≠ D := fun z => by
          obtain ⟨l0, h0⟩ := W2.b.lst
          rw [← z, h0] at hD
          cases hD
        walk_at "go"
        refine ⟨b, D, _, rfl, W3.b, .inl (.inl q1), hbD, by rw [List.length_map]; omega, fun p ys H4 hperm hp hp4 b4 n4 => ?_⟩
        have W4 := W3.bg C g n4 b4
        have ysn : ys.Nodup := hperm.nodup_iff.mpr (List.pairwise_map.mpr (q4.imp fun z e => z (V.int.inj e)))
        have ysm : ∀ v, v ∈ ys ↔ ∃ i : Int, v = .int i ∧ 0 ≤ i ∧ i < n ∧ gv c i = none := fun v => by
          rw [hperm.mem_iff, List.mem_map]
          exact ⟨fun ⟨i, hi, e⟩ => ⟨i, e.symm, (q3 i).mp hi⟩, fun ⟨i, e, hi⟩ => ⟨i, (q3 i).mpr hi, e.symm⟩⟩
        have hpn : H0 p = none := by
          cases h : H0 p with
          | none => rfl
          | some o =>
            exfalso
            by_cases e : p = b.a
            · obtain ⟨l0, h0⟩ := W3.b.lst
              rw [e, h0] at hp
              cases hp
            · rw [W3.e _ _ h (by simpa using e)] at hp
              cases hp
        have hpa : p ≠ a2 := fun z => by
          obtain ⟨_, _, h1, _, _⟩ := W3.o
          rw [z, h1] at hp
          cases hp
        have hpd : p ≠ d2 := fun z => by
          obtain ⟨_, _, _, h1, _⟩ := W3.o
          rw [z, h1] at hp
          cases hp
        refine ⟨p, rfl, ⟨ys, .inl (.inl hp4)⟩, ?_⟩
        refine r_loopL (xs := ys) (fun j σ H5 => (∃ u7 u8, σ = [some (.ref b.a), some (.ref s'.sd), some (.ref s'.a), some (.ref s'.p), some (.int n), some (.ref a2), some (.ref kn), u7, u8, none]) ∧ EqW cB K b s' c n a2 d2 kn H0 (c2.filter fun q => decide (V.int q.1 ∉ ys.take j)) n H5 ∧ H5 p = some (.lst ys)) ⟨⟨_, _, rfl⟩, ?_, hp4⟩ (fun i σ H5 hi z => .inl (.inl z.2.2)) ?_ ?_
        · rw [show (c2.filter fun q => decide (V.int q.1 ∉ ys.take 0)) = c2 by rw [List.filter_eq_self.mpr]; intro q _; simp]
          exact W4
        · rintro j v σ H5 hv ⟨⟨u7, u8, rfl⟩, W5, hp5⟩
          obtain ⟨i, rfl, i0, i1, hgi⟩ := (ysm v).mp (List.mem_of_getElem? hv)
          obtain ⟨x, hx⟩ := f1 i i0 i1
          obtain ⟨hjl, hje⟩ := List.getElem?_eq_some_iff.mp hv
          have hnt : V.int i ∉ ys.take j := fun z => by
            obtain ⟨m, hm, e⟩ := List.getElem_of_mem z
            rw [List.length_take] at hm
            rw [List.getElem_take] at e
            exact absurd (by rw [e, hje]) (List.pairwise_iff_getElem.mp ysn m j (by omega) hjl (by omega))
          have hgv : gv (c2.filter fun q => decide (V.int q.1 ∉ ys.take j)) i = some x := (gv_iff W5.g2.nd).mpr (List.mem_filter.mpr ⟨hx, decide_eq_true hnt⟩)
          obtain ⟨dx5, l5, ha5, hd5, hl5⟩ := W5.o
          walk_at "go"
          refine ⟨d2, a2, _, n, i, x, rfl, W5.o, hgv, fun v' H6 e6 L6 lt6 => ?_⟩
          walk_at "go"
          have ef : gd (c2.filter fun q => decide (V.int q.1 ∉ ys.take j)) i = c2.filter fun q => decide (V.int q.1 ∉ ys.take (j + 1)) := by
            unfold gd
            rw [List.filter_filter]
            refine List.filter_congr fun q _ => ?_
            rw [List.take_succ, hv, Bool.eq_iff_iff, Bool.and_eq_true_iff, decide_eq_true_iff, decide_eq_true_iff, decide_eq_true_iff]
            simp only [Option.toList_some, List.mem_append, List.mem_singleton, not_or]
            exact ⟨fun z => ⟨z.2, fun e => z.1 (V.int.inj e)⟩, fun z => ⟨fun e => z.2 (by rw [e]), z.1⟩⟩
          have g6 := W5.g2.drop i
          rw [ef] at L6 g6
          exact ⟨⟨_, _, rfl⟩, W5.oth C g (e6.mono (by simp)) L6 g6, e6 _ _ hp5 (by simpa using hpd)⟩
        · rintro σ H5 ⟨⟨u7, u8, rfl⟩, W5, hp5⟩
          rw [List.take_length] at W5
          have ec : (c2.filter fun q => decide (V.int q.1 ∉ ys)) = c := asc_ext (W2.g2.asc.filter _) g.asc fun q => by
            rw [List.mem_filter, decide_eq_true_iff]
            constructor
            · rintro ⟨h1, h2⟩
              have hok := W2.g2.ok q h1
              cases hg : gv c q.1 with
              | none => exact absurd ((ysm _).mpr ⟨q.1, rfl, hok.1, hok.2.1, hg⟩) h2
              | some x =>
                have hm := (gv_iff g.nd).mp hg
                have h3 := (gv_iff W2.g2.nd).mpr (f2 _ hm)
                have h4 := (gv_iff W2.g2.nd).mpr (show (q.1, q.2) ∈ c2 from h1)
                rw [h3] at h4
                rw [Option.some.inj h4] at hm
                exact hm
            · intro h1
              refine ⟨f2 _ h1, fun z => ?_⟩
              obtain ⟨i, e, _, _, hg⟩ := (ysm _).mp z
              cases e
              have := (gv_iff g.nd).mpr (show (q.1, q.2) ∈ c from h1)
              rw [hg] at this
              cases this
          rw [ec] at W5
          exact ⟨⟨_, _, rfl⟩, W5⟩
    rintro σ' H3 ⟨⟨u7', u8', rfl⟩, W3⟩
    refine r_mid (fun σ' H' => σ' = [some (.ref b.a), some (.ref s'.sd), some (.ref s'.a), some (.ref s'.p), some (.int n), some (.ref a2), some (.ref kn), u7', u8', none] ∧ EqW cB K b s' c n a2 d2 kn H0 c n H') ?_ ?_
    · walk_at "go"
      refine eq_bags W3.s.bag W3.o ?_
      rw [eqvK_self g, decide_eq_true rfl]
      walk_at "go"
      refine k_like (.bl _ _) fun H4 e4 => ?_
      have W4 := W3.x0 C g e4
      walk_at "run"
      refine eq_bags W4.o W4.s.bag ?_
      rw [eqvK_self g, decide_eq_true rfl]
      walk_at "go"
      refine k_like (.bl _ _) fun H5 e5 => ?_
      have W5 := W4.x0 C g e5
      obtain ⟨dx5, l5, ha5, hd5, hl5⟩ := W5.s.bag
      obtain ⟨vs5, hp5, hvs5⟩ := W5.s.rows
      walk_at "run"
      refine ⟨s'.a, dx5, _, rfl, ha5, .inr ⟨uBag, s'.p, vs5, rfl, .inl (.inl hp5)⟩, s'.a, s'.p, dx5, _, vs5, rfl, ha5, .inl (.inl hp5), false, rfl, ?_⟩
      walk_at "go"
      refine k_like (.bl _ _) fun H6 e6 => ?_
      walk_at "run"
      exact ⟨rfl, W5.x0 C g e6⟩
    rintro σ' H4 ⟨rfl, W4⟩
    have hgl2 := W4.g2.len
    refine r_mid (fun σ' H' => ∃ a3 d3, σ' = [some (.ref b.a), some (.ref s'.sd), some (.ref s'.a), some (.ref s'.p), some (.int n), some (.ref a2), some (.ref kn), u7', u8', some (.ref a3)] ∧ Ext [] H4 H' ∧ LbAt cB K H' d3 a3 c n ∧ H4 d3 = none ∧ H4 a3 = none ∧ d3 ≠ a3) ?_ ?_
    · obtain ⟨dx5, l5, ha5, hd5, hl5⟩ := W4.s.bag
      walk_at "go"
      refine ⟨s'.d, s'.a, c, n, rfl, W4.s.bag, by omega, g.nd, fun d3 a3 H5 h1 h2 h3 e5 L5 => ?_⟩
      walk_at "go"
      exact ⟨a3, d3, rfl, e5, L5, h2, h1, h3⟩
    rintro σ' H5 ⟨a3, d3, rfl, e5, L5, hd3, ha3, hda3⟩
    have W5 := W4.x0 C g e5
    have nba : ∀ {x : Addr}, H4 x = none → x ≠ b.a := fun h z => by
      obtain ⟨l0, h0⟩ := W4.b.lst
      rw [← z, h] at h0
      cases h0
    refine r_mid (fun σ' H' => (∃ u7, σ' = [some (.ref b.a), some (.ref s'.sd), some (.ref s'.a), some (.ref s'.p), some (.int n), some (.ref a2), some (.ref kn), u7, u8', some (.ref a3)]) ∧ Ext [b.a] H4 H' ∧ BagAt K H' b) ?_ ?_
    · walk_at "go"
      rename_i t1 ht1
      have e6 : Ext [] H5 (upd H5 t1 (.lst [])) := Ext.refl.new ht1
      have W6 := W5.x0 C g e6
      have L6 := L5.t g (ExtT.of e6) (fun _ z => nomatch z) List.not_mem_nil List.not_mem_nil
      obtain ⟨vs, hp6, hvs⟩ := W6.s.rows
      have hlen := hvs.1
      refine ⟨_, _, .lst (.inl (.inl hp6)) (rows_dp hvs), .lst (.inl (.inl upd_same)) .nil, g.rows_shaped, by decide +kernel, _, rfl, ?_⟩
      rw [nil_eqv]
      generalize upd H5 t1 (.lst []) = H6 at *
      have e46 := (e5.trans e6)
      refine r_ndec (fun hc => ?_) (fun hc => ?_)
      · have hpos : 0 < c.length := List.length_pos_iff.mpr hc
        walk_at "go"
        refine ⟨b, s'.p, vs, rfl, W6.b, .inl (.inl hp6), (fun z => nb (by rw [z]; simp [Sd.own])), by omega, by omega, fun i v H7 hv b7 n7 => ?_⟩
        obtain ⟨⟨kk, x⟩, hq, hx⟩ := (hvs.t g (ExtT.of n7) (bag_nt W6.b)).at_ hv
        have hL : IsL kk x := (g.ok _ (List.mem_of_getElem? hq)).2.2
        obtain ⟨ra, u, w', t, ch, wd, rfl, hs, hu, hw, hch, hwd, ex⟩ := lt_tup hx hL
        have hgv : gv c kk = some x := (gv_iff g.nd).mpr (List.mem_of_getElem? hq)
        have L7 := L6.t g (ExtT.of n7) (bag_nt W6.b) (by simpa using nba ha3) (by simpa using nba hd3)
        have e47 : Ext [b.a] H4 H7 := (e46.mono fun _ z => nomatch z).trans n7
        obtain ⟨dx7, l7, ha7, hd7, hl7⟩ := id L7
        walk_at "go"
        refine ⟨d3, a3, c, n, kk, x, rfl, L7, hgv, fun v' H8 e8 L8 lt8 => ?_⟩
        have e48 : Ext [b.a] H4 H8 := ext_fresh e47 e8 fun y hy => by rw [List.mem_singleton.mp hy]; exact hd3
        have b8 : BagAt K H8 b := b7.f e8 (no_dk hd7).2
        have W8 := W4.bg C g e48 b8
        obtain ⟨vs8, hp8, hvs8⟩ := W8.s.rows
        obtain ⟨dx8, l8, ha8, hd8, hl8⟩ := W8.s.bag
        have hlen8 := hvs8.1
        walk_at "go"
        refine eq_bags W8.s.bag L8 ?_
        rw [eqvK_len (by rw [gd_erase g.asc hq, List.length_eraseIdx, if_pos (List.getElem?_eq_some_iff.mp hq).1]; omega), Bool.false_and]
        walk_at "go"
        refine k_like (.bl _ _) fun H9 e9 => ?_
        have hp9 := e9 _ _ hp8 List.not_mem_nil
        have ha9 := e9 _ _ ha8 List.not_mem_nil
        walk_at "run"
        refine ⟨s'.a, dx8, _, rfl, ha9, s'.d, s'.a, c, n, rfl, W8.s.bag.t g (ExtT.of e9) (fun _ z => nomatch z) List.not_mem_nil List.not_mem_nil, c.length, rfl, Nat.lt_of_le_of_lt (by omega : c.length ≤ 4000) (by decide), ?_⟩
        walk_at "go"
        refine r_len (.inl (.inl (.inl hp9))) ?_
        rw [hlen8]
        walk_at "go"
        refine k_like (.int _ _) fun H10 e10 => ?_
        walk_at "run"
        exact ⟨⟨_, rfl⟩, e48.trans ((e9.trans e10).mono fun _ z => nomatch z), (b8.x0 e9).x0 e10⟩
      · exact ⟨⟨_, rfl⟩, e46.mono fun _ z => (nomatch z), W6.b⟩
    rintro σ' H6 ⟨⟨u7, rfl⟩, e46, b6⟩
    have W6 := W4.bg C g e46 b6
    clear W5 L5 e5 W4
    refine r_mid (fun σ' H' => σ' = [some (.ref b.a), some (.ref s'.sd), some (.ref s'.a), some (.ref s'.p), some (.int n), some (.ref a2), some (.ref kn), u7, u8', some (.ref a3)] ∧ ∃ x, IsL n x ∧ EqW cB K b s' c n a2 d2 kn H0 (c ++ [((n : Int), x)]) (n + 1) H') ?_ ?_
    · obtain ⟨dx6, l6, ha6, hd6, hl6⟩ := W6.o
      walk_at "go"
      refine ⟨b, rfl, W6.b, fun v1 x1 H7 d1 m1 b7 n7 => ?_⟩
      have W7 := W6.bg C g n7 b7
      walk_at "go"
      rename_i t1 ht1
      have hX : IsL n (.tuple [.int (n : Int), x1, .int 1, amDt 1]) := ⟨x1, 1, amDt 1, rfl, m1, .am 1⟩
      have e8 : Ext [] H7 (upd H7 t1 (.tup [.int 1, .int 1])) := Ext.refl.new ht1
      have W8 := W7.x0 C g e8
      refine ⟨d2, a2, c, n, v1, _, _, x1, .int 1, amDt 1, rfl, W8.o, by omega, by omega, dpx0 e8 d1, .int _, .tup tupS (.cons (.int _) (.cons (.int _) .nil)), (let_ok hX).shaped, fun H9 e9 L9 => ?_⟩
      rw [g.gp] at L9
      have W9 := W8.oth C g e9 L9 (g.snoc hX)
      walk_at "go"
      refine k_like (.int _ _) fun H10 e10 => ?_
      have W10 := W9.x0 C g e10
      walk_at "run"
      refine eq_bags W10.s.bag W10.o ?_
      rw [eqvK_len (by simp), Bool.false_and]
      walk_at "go"
      refine k_like (.bl _ _) fun H11 e11 => ?_
      walk_at "run"
      exact ⟨rfl, _, hX, W10.x0 C g e11⟩
    rintro σ' H7 ⟨rfl, x, hx, W7⟩
    obtain ⟨dx7, l7, ha7, hd7, hl7⟩ := W7.o
    have hgv : gv (c ++ [((n : Int), x)]) n = some x := (gv_iff W7.g2.nd).mpr (by simp)
    walk_at "go"
    refine ⟨d2, a2, _, n + 1, n, x, rfl, W7.o, hgv, fun v' H8 e8 L8 lt8 => ?_⟩
    have W8 := W7.oth C g (e8.mono (by simp)) L8 (W7.g2.drop _)
    walk_at "go"
    refine eq_bags W8.s.bag W8.o ?_
    rw [decide_eq_false (by omega), Bool.and_false]
    walk_at "go"
    refine k_like (.bl _ _) fun H9 e9 => ?_
    have W9 := W8.x0 C g e9
    obtain ⟨dx9, l9, ha9, hd9, hl9⟩ := W9.s.bag
    walk_at "run"
    refine ⟨s'.d, s'.a, c, n, rfl, W9.s.bag, by omega, g.nd, fun d4 a4 H10 h1 h2 h3 e10 L10 => ?_⟩
    have W10 := W9.x0 C g e10
    walk_at "go"
    refine eq_bags W10.s.bag L10 ?_
    rw [eqvK_self g, decide_eq_true rfl]
    walk_at "go"
    refine k_like (.bl _ _) fun H11 e11 => ?_
    have W11 := W10.x0 C g e11
    walk_at "run"
    exact k _ W11.b W11.e
end
end Yk

set_option maxHeartbeats 8000000
namespace Yk
open PySem PySem.Spec PyProof.Rows L2 L2H LamX

local macro_rules | `(tactic| walk_at "st") => `(tactic| first
  | with_reducible refine' r_tAt ?_
  | ((with_reducible refine' r_fld ?h1 ?h2 ?h3); (case h1 => first | assumption | exact upd_same); (case h2 => first | walk_at "lk" | rfl))
  | with_reducible refine' r_sAt ?_
  | ((with_reducible refine' r_putU ?h1 ?h2); (case h1 => (repeat refine putF_lt ?_); decide))
  | ((with_reducible refine' r_put ?h1 ?h2 ?h3); (case h1 => first | assumption | exact upd_same); (case h2 => (repeat refine putF_lt ?_); decide))
  | with_reducible refine' r_tMt ?_
  | ((with_reducible refine' r_met ?h1 ?h2 ?h3); (case h1 => first | assumption | exact upd_same); (case h2 => first | walk_at "lk" | rfl))
  | with_reducible refine' r_tCr ?_
  | with_reducible refine' r_tCrK ?_
  | with_reducible refine' r_chain ?_)
local macro_rules | `(tactic| walk_at "st") => `(tactic| first
  | with_reducible refine' r_dget ?_
  | with_reducible refine' r_dc ?_
  | with_reducible refine' r_iVals ?_
  | with_reducible refine' r_dnotin ?_
  | with_reducible refine' r_din ?_
  | with_reducible refine' r_iItems ?_
  | with_reducible refine' r_iKeysT ?_
  | with_reducible refine' r_tget1 ?_
  | with_reducible refine' r_tget2 ?_
  | with_reducible refine' r_dput ?_
  | with_reducible refine' r_tPr ?_
  | ((with_reducible refine' r_prp2 ?h1 ?h2); (case h1 => first | assumption | exact upd_same))
  | with_reducible refine' r_par3 ?_
  | ((with_reducible refine' r_dnT ?_); (intro np hnp))
  | ((with_reducible refine' r_dnK ?_); (intro np hnp)))
/-! The law of bags. -/
local macro_rules | `(tactic| walk_at "lk") => `(tactic| first | with_reducible exact lk_Lb_letters | with_reducible exact lk_Lb_coming | exact lk_Lb_no (by decide +kernel) (by decide +kernel))
abbrev CN : Type := List (Int × PyData) × Nat
/-- up to three sides -/
structure Sds (cB P0 : Addr) (K : PySem.W.Frag) (b : Bag) (L : Addr) (m : Nat) (ss : List Sd) (cs : Nat → CN) (H : Hp) : Prop where
  bag : BagAt K H b
  lst : H L = some (.lst (ss.map fun s => V.ref s.sd))
  tab : Tabs (CTd P0) H
  at_ : ∀ (i : Nat) (s : Sd), ss[i]? = some s → SideAt cB K H s (cs i).1 (cs i).2 ∧ GoodL (cs i).1 (cs i).2 ∧ (cs i).2 ≤ m
  own : ∀ (i : Nat) (s : Sd), ss[i]? = some s → s.own.Nodup ∧ L ∉ s.own ∧ BagO K b s.own
  dj : ∀ (i j : Nat) (s t : Sd), ss[i]? = some s → ss[j]? = some t → i ≠ j → ∀ x ∈ s.own, x ∉ t.own
  lo : BagO K b [L]
  pos : 0 < ss.length
  le : ss.length ≤ 3
section
variable {cB P0 : Addr} {K : PySem.W.Frag} {b : Bag} {L : Addr} {m : Nat} {ss : List Sd} {cs : Nat → CN} {H H1 : Hp}
theorem Sds.lb (W : Sds cB P0 K b L m ss cs H) : L ≠ b.a := fun z => W.lo.ne (by rw [z]; simp)
theorem Sds.bg (W : Sds cB P0 K b L m ss cs H) (e : Ext [b.a] H H1) (b1 : BagAt K H1 b) : Sds cB P0 K b L m ss cs H1 :=
  ⟨b1, e _ _ W.lst (by simpa using W.lb), Tabs.bg W.bag e W.tab, fun i s hs => by
    obtain ⟨h1, h2, h3⟩ := W.at_ i s hs
    exact ⟨h1.bg W.bag h2 e (List.nodup_cons.mpr ⟨(W.own i s hs).2.2.ne, (W.own i s hs).1⟩), h2, h3⟩, W.own, W.dj, W.lo, W.pos, W.le⟩
theorem Sds.x0 (W : Sds cB P0 K b L m ss cs H) (e : Ext [] H H1) : Sds cB P0 K b L m ss cs H1 := W.bg (e.mono fun _ z => nomatch z) (W.bag.x0 e)
/-- the i-th side did something -/
theorem Sds.deed (W : Sds cB P0 K b L m ss cs H) {i : Nat} {s : Sd} (hs : ss[i]? = some s) {c' : List (Int × PyData)} {n' : Nat} (e : ExtT (b.a :: s.own) H H1) (b1 : BagAt K H1 b) (S1 : SideAt cB K H1 s c' n') (g : GoodL c' n') (hn : n' ≤ m + 1) (t1 : Tabs (CTd P0) H1) :
    Sds cB P0 K b L (m + 1) ss (fun j => if j = i then (c', n') else cs j) H1 := by
  have nt : NoTup H (b.a :: s.own) := fun y hy => by
    rcases List.mem_cons.mp hy with rfl | hy
    · exact bag_nt W.bag _ (by simp)
    · exact (W.at_ i s hs).1.nt _ hy
  refine ⟨b1, e _ _ W.lst (fun z => ?_) (fun _ z => nomatch z), t1, fun j t ht => ?_, W.own, W.dj, W.lo, W.pos, W.le⟩
  · rcases List.mem_cons.mp z with z | z
    · exact W.lb z
    · exact (W.own i s hs).2.1 z
  · by_cases hj : j = i
    · subst hj
      rw [hs] at ht
      cases ht
      simp only [if_true]
      exact ⟨S1, g, hn⟩
    · simp only [if_neg hj]
      obtain ⟨h1, h2, h3⟩ := W.at_ j t ht
      refine ⟨h1.t h2 e nt fun x hx z => ?_, h2, by omega⟩
      rcases List.mem_cons.mp z with z | z
      · exact (W.own j t ht).2.2.ne (by rw [← z]; exact hx)
      · exact W.dj j i t s ht hs hj x hx z
theorem Sds.up (W : Sds cB P0 K b L m ss cs H) {m' : Nat} (h : m ≤ m') : Sds cB P0 K b L m' ss cs H :=
  ⟨W.bag, W.lst, W.tab, fun i s hs => ⟨(W.at_ i s hs).1, (W.at_ i s hs).2.1, Nat.le_trans (W.at_ i s hs).2.2 h⟩, W.own, W.dj, W.lo, W.pos, W.le⟩
theorem nt_some {S : List Addr} (h : NoTup H S) {x : Addr} (hx : x ∈ S) : H x ≠ none := fun z => by
  obtain ⟨o, q, _⟩ := h x hx
  rw [z] at q
  cases q
/-- a further side, all of it new -/
theorem Sds.add (W : Sds cB P0 K b L m ss cs H) (h3 : ss.length < 3) {s : Sd} {c : List (Int × PyData)} {n : Nat} (e : Ext [] H H1) (S1 : SideAt cB K H1 s c n) (g : GoodL c n) (hn : n ≤ m) (nd : s.own.Nodup) (fr : ∀ x ∈ s.own, H x = none) :
    Sds cB P0 K b L m (ss ++ [s]) (fun j => if j = ss.length then (c, n) else cs j) (upd H1 L (.lst (ss.map (fun s => V.ref s.sd) ++ [.ref s.sd]))) := by
  have W1 := W.x0 e
  have e2 : Ext [L] H1 (upd H1 L (.lst (ss.map (fun s => V.ref s.sd) ++ [.ref s.sd]))) := Ext.refl.at_ (by simp)
  have nt : NoTup H1 [L] := no_lst W1.lst
  have Ls : L ∉ s.own := fun z => by have := fr L z; rw [W.lst] at this; cases this
  have get : ∀ {j : Nat} {t : Sd}, (ss ++ [s])[j]? = some t → (j < ss.length ∧ ss[j]? = some t) ∨ (j = ss.length ∧ t = s) := fun {j t} h => by
    by_cases hj : j < ss.length
    · rw [List.getElem?_append_left hj] at h
      exact .inl ⟨hj, h⟩
    · rw [List.getElem?_append_right (by omega)] at h
      have h0 := (List.getElem?_eq_some_iff.mp h).1
      simp at h0
      have : j - ss.length = 0 := by omega
      rw [this] at h
      exact .inr ⟨by omega, (Option.some.inj h).symm⟩
  have bo : BagO K b s.own := ⟨H, W.bag, fr⟩
  refine ⟨W.lo.upd (by simp) W1.bag, by rw [upd_same, List.map_append]; rfl, Tabs.keep (fun y hy => by
      rw [List.mem_singleton.mp hy]
      exact ⟨_, W1.lst, (fun _ z => nomatch z), fun q z => by unfold CodeO at z; cases z⟩) e2 W1.tab, fun j t ht => ?_, fun j t ht => ?_, fun i j u t hu ht hij x hx hy => ?_, W.lo, by simp, by simp; omega⟩
  · rcases get ht with ⟨hj, ht⟩ | ⟨rfl, rfl⟩
    · simp only [if_neg (Nat.ne_of_lt hj)]
      obtain ⟨q1, q2, q3⟩ := W1.at_ j t ht
      exact ⟨q1.t q2 (ExtT.of e2) nt fun x hx z => (W.own j t ht).2.1 (by rw [← List.mem_singleton.mp z]; exact hx), q2, q3⟩
    · simp only [if_true]
      exact ⟨S1.t g (ExtT.of e2) nt fun x hx z => Ls (by rw [← List.mem_singleton.mp z]; exact hx), g, hn⟩
  · rcases get ht with ⟨hj, ht⟩ | ⟨rfl, rfl⟩
    · exact W.own j t ht
    · exact ⟨nd, Ls, bo⟩
  · rcases get hu with ⟨hi, hu'⟩ | ⟨rfl, rfl⟩
    · rcases get ht with ⟨hj, ht'⟩ | ⟨rfl, rfl⟩
      · exact W.dj i j u t hu' ht' hij x hx hy
      · exact nt_some (W.at_ i u hu').1.nt hx (fr x hy)
    · rcases get ht with ⟨hj, ht'⟩ | ⟨rfl, rfl⟩
      · exact nt_some (W.at_ j t ht').1.nt hy (fr x hx)
      · exact hij rfl
end
theorem Sds.one {cB P0 : Addr} {K : PySem.W.Frag} {b : Bag} {L : Addr} {H H1 : Hp} {s : Sd} (b0 : BagAt K H b) (e : Ext [] H H1) (t : Tabs (CTd P0) H1) (S1 : SideAt cB K H1 s [] 0) (hL : H1 L = some (.lst [.ref s.sd])) (nd : s.own.Nodup) (fr : ∀ x ∈ s.own, H x = none) (frL : H L = none) (hLs : L ∉ s.own) :
    Sds cB P0 K b L 0 [s] (fun _ => ([], 0)) H1 := by
  have one : ∀ {j : Nat} {x : Sd}, [s][j]? = some x → j = 0 ∧ x = s := fun {j x} h => by
    cases j with
    | zero => exact ⟨rfl, (Option.some.inj h).symm⟩
    | succ j => cases h
  refine ⟨b0.x0 e, hL, t, fun j x hx => ?_, fun j x hx => ?_, fun i j x y hx hy hij => ?_, ⟨H, b0, fun x hx => by rw [List.mem_singleton.mp hx]; exact frL⟩, by simp, by simp⟩
  · obtain ⟨_, rfl⟩ := one hx
    exact ⟨S1, ⟨.nil, (fun p hp => by cases hp)⟩, Nat.le_refl _⟩
  · obtain ⟨_, rfl⟩ := one hx
    exact ⟨nd, hLs, H, b0, fr⟩
  · exact absurd ((one hx).1.trans (one hy).1.symm) hij
theorem asc_le : ∀ {d c : List Int}, c.Pairwise (· < ·) → d.Pairwise (· < ·) → (∀ x ∈ c, x ∈ d) → c.length ≤ d.length
  | d, [], _, _, _ => by simp
  | [], p :: c, _, _, h => by have := h p List.mem_cons_self; cases this
  | q :: d, p :: c, hc, hd, h => by
    obtain ⟨c1, c2⟩ := List.pairwise_cons.mp hc
    obtain ⟨d1, d2⟩ := List.pairwise_cons.mp hd
    by_cases e : p = q
    · have := asc_le c2 d2 fun x hx => by
        rcases List.mem_cons.mp (h x (List.mem_cons_of_mem _ hx)) with z | z
        · have := c1 x hx; omega
        · exact z
      simpa using this
    · have hp : p ∈ d := (List.mem_cons.mp (h p List.mem_cons_self)).resolve_left e
      have := asc_le (c := p :: c) hc d2 fun x hx => by
        rcases List.mem_cons.mp (h x hx) with z | z
        · rcases List.mem_cons.mp hx with y | y
          · exact absurd (y.symm.trans z) e
          · have := c1 x y; have := d1 p hp; omega
        · exact z
      simp at this ⊢
      omega
theorem asc_sub : ∀ {d c : List Int}, c.Pairwise (· < ·) → d.Pairwise (· < ·) → (∀ x ∈ c, x ∈ d) → d.length ≤ c.length → c = d
  | d, [], _, _, _, hl => (List.length_eq_zero_iff.mp (by simpa using hl)).symm
  | [], p :: c, _, _, h, _ => by have := h p List.mem_cons_self; cases this
  | q :: d, p :: c, hc, hd, h, hl => by
    obtain ⟨c1, c2⟩ := List.pairwise_cons.mp hc
    obtain ⟨d1, d2⟩ := List.pairwise_cons.mp hd
    by_cases e : p = q
    · subst e
      rw [asc_sub c2 d2 (fun x hx => by
        rcases List.mem_cons.mp (h x (List.mem_cons_of_mem _ hx)) with z | z
        · have := c1 x hx; omega
        · exact z) (by simpa using hl)]
    · have hp : p ∈ d := (List.mem_cons.mp (h p List.mem_cons_self)).resolve_left e
      have := asc_le (c := p :: c) hc d2 fun x hx => by
        rcases List.mem_cons.mp (h x hx) with z | z
        · rcases List.mem_cons.mp hx with y | y
          · exact absurd (y.symm.trans z) e
          · have := c1 x y; have := d1 p hp; omega
        · exact z
      simp at this hl
      omega
theorem eqvAll_iff : ∀ {c d : List (Int × PyData)}, (∀ p ∈ c, IsL p.1 p.2) → (∀ p ∈ d, IsL p.1 p.2) → (PyData.eqvAll (c.map (·.2)) (d.map (·.2)) = true ↔ c.map (·.1) = d.map (·.1) ∧ ∀ (i : Nat) (p q : Int × PyData), c[i]? = some p → d[i]? = some q → PyData.eqv p.2 q.2 = true)
  | [], [], _, _ => by simp [PyData.eqvAll]
  | [], q :: d, _, _ => by simp [PyData.eqvAll]
  | p :: c, [], _, _ => by simp [PyData.eqvAll]
  | p :: c, q :: d, hc, hd => by
    have ih := eqvAll_iff (c := c) (d := d) (fun x hx => hc x (List.mem_cons_of_mem _ hx)) fun x hx => hd x (List.mem_cons_of_mem _ hx)
    simp only [List.map_cons, PyData.eqvAll, Bool.and_eq_true, ih, List.cons.injEq]
    constructor
    · rintro ⟨h1, h2, h3⟩
      refine ⟨⟨eqv_let (hc p List.mem_cons_self) (hd q List.mem_cons_self) h1, h2⟩, fun i x y hx hy => ?_⟩
      cases i with
      | zero => cases hx; cases hy; exact h1
      | succ i => exact h3 i x y hx hy
    · rintro ⟨⟨h1, h2⟩, h3⟩
      exact ⟨h3 0 p q rfl rfl, h2, fun i x y hx hy => h3 (i + 1) x y hx hy⟩
theorem find_kd {d : List (Int × PyData)} {m : Nat} (g : GoodL d m) (k : Int) : (kd d).find? (fun r => decide (r.1 = Sum.inl k)) = (gv d k).map fun y => ((Sum.inl k : Key), y) := by
  unfold kd gv
  rw [List.find?_map]
  have h3 : ((fun r : Key × PyData => decide (r.1 = Sum.inl k)) ∘ fun p : Int × PyData => ((Sum.inl p.1 : Key), p.2)) = fun p : Int × PyData => decide (p.1 = k) := by
    funext p
    show decide ((Sum.inl p.1 : Key) = Sum.inl k) = decide (p.1 = k)
    exact decide_eq_decide.mpr ⟨fun z => Sum.inl.inj z, fun z => by rw [z]⟩
  rw [h3]
  cases hf : d.find? fun p => decide (p.1 = k) with
  | none => rfl
  | some r =>
    have h0 := List.find?_some (p := fun p : Int × PyData => decide (p.1 = k)) hf
    have h1 : r.1 = k := of_decide_eq_true h0
    show some ((Sum.inl r.1 : Key), r.2) = some ((Sum.inl k : Key), r.2)
    rw [h1]
/-- bags are equal where the rows are -/
theorem eqvK_rows {c d : List (Int × PyData)} {n m : Nat} (g : GoodL c n) (h : GoodL d m) : eqvK (kd c) (kd d) = PyData.eqv (.list (c.map (·.2))) (.list (d.map (·.2))) := by
  rw [Bool.eq_iff_iff]
  simp only [PyData.eqv]
  rw [eqvAll_iff (fun p hp => (g.ok p hp).2.2) fun p hp => (h.ok p hp).2.2]
  unfold eqvK
  rw [Bool.and_eq_true_iff, List.all_eq_true]
  have key : ∀ p ∈ c, (match (kd d).find? fun q => decide (q.1 = Sum.inl p.1) with | some q => PyData.eqv p.2 q.2 | none => false) = true ↔ ∃ y, gv d p.1 = some y ∧ PyData.eqv p.2 y = true := fun p _ => by
    rw [find_kd h]
    cases gv d p.1 with
    | none => simp
    | some y => simp
  have hlen : (kd c).length = c.length ∧ (kd d).length = d.length := ⟨by simp [kd], by simp [kd]⟩
  constructor
  · rintro ⟨h1, h2⟩
    have hl : c.length = d.length := by simpa [hlen.1, hlen.2] using h1
    have h3 : ∀ p ∈ c, ∃ y, gv d p.1 = some y ∧ PyData.eqv p.2 y = true := fun p hp => (key p hp).mp (h2 _ (List.mem_map_of_mem hp))
    have hk : c.map (·.1) = d.map (·.1) := asc_sub (List.pairwise_map.mpr g.asc) (List.pairwise_map.mpr h.asc) (fun x hx => by
      obtain ⟨p, hp, rfl⟩ := List.mem_map.mp hx
      obtain ⟨y, hy, _⟩ := h3 p hp
      exact List.mem_map.mpr ⟨(p.1, y), (gv_iff h.nd).mp hy, rfl⟩) (by simp [hl])
    refine ⟨hk, fun i p q hp hq => ?_⟩
    obtain ⟨y, hy, he⟩ := h3 p (List.mem_of_getElem? hp)
    have hpq : p.1 = q.1 := by
      have := congrArg (fun l : List Int => l[i]?) hk
      simp only [List.getElem?_map, hp, hq, Option.map_some, Option.some.injEq] at this
      exact this
    have hq2 := (gv_iff h.nd).mpr (show (q.1, q.2) ∈ d from List.mem_of_getElem? hq)
    rw [← hpq, hy] at hq2
    rw [← Option.some.inj hq2]
    exact he
  · rintro ⟨hk, h2⟩
    have hl : c.length = d.length := by
      have := congrArg List.length hk
      simpa using this
    refine ⟨by simp [hlen.1, hlen.2, hl], fun r hr => ?_⟩
    obtain ⟨p, hp, rfl⟩ := List.mem_map.mp hr
    refine (key p hp).mpr ?_
    obtain ⟨i, hi, e⟩ := List.getElem_of_mem hp
    have hci : c[i]? = some p := by rw [List.getElem?_eq_getElem hi, e]
    have hdi : d[i]? = some d[i] := List.getElem?_eq_getElem (by omega)
    have hpq : p.1 = d[i].1 := by
      have := congrArg (fun l : List Int => l[i]?) hk
      simp only [List.getElem?_map, hci, hdi, Option.map_some, Option.some.injEq] at this
      exact this
    exact ⟨d[i].2, (gv_iff h.nd).mpr (by rw [hpq]; exact List.getElem_mem _), h2 i p d[i] hci hdi⟩
section
variable {P : Program} {w : World} {K : PySem.W.Frag} {mg : Str → Option Value} {base : Heap} {f : Addr} {fd : FuncData}
def spLaw30 (P0 : Addr) (K : PySem.W.Frag) : Sp := fun vs H Q _ => ∃ (a : Addr) (ns : List Int), vs = [.ref a] ∧ SqL K H a (ns.map V.int) ∧ ns.length ≤ 63 ∧ H P0 = some (.tbl #[]) ∧ ∀ H', Q (.bl true) H'
abbrev s_law : Stmt := top 22
theorem c_law : FnScope ["_law_script", "_law_bag_here", "_law_sides", "_law_k", "_law_side", "_law_first", "_law_last"] ["_law_script"] (defScope s_law) := ⟨rfl, rfl, rfl, by decide +kernel, rfl, by decide +kernel, by decide +kernel⟩
theorem f_law (F : FunD K "law" "law" (defArgs s_law) (defBody s_law) (defScope s_law) [] [] f fd) (hm : mg "law" = some (.ref f)) {cB P0 : Addr} (T : Bt mg) (TBag : Ct K mg "Bag" cB ["_letters", "_coming"]) (RBag : Cr P w K mg base 1 "Bag" cB (spLbInit cB)) (F_law_bag : Fn P w K mg base 1 "_law_bag" (spBag K)) (F_law_draw : Fn P w K mg base 1 "_law_draw" (spDraw K)) (F_law_of : Fn P w K mg base 2 "_law_of" (spOf K)) (F_law_same : Fn P w K mg base 5 "_law_same" (spLike K 5)) (F_law_deed : Fn P w K mg base 8 "_law_deed" (spDeed cB P0 K)) (F_law_looks : Fn P w K mg base 6 "_law_looks" (spLookB cB K)) (F_law_equal : Fn P w K mg base 6 "_law_equal" (spLookB cB K)) (MBag_copy : Mt P w K mg base 3 cB "copy" (spLbCopy cB K)) (SBag_eq : SmF P w K mg base 1 cB "__eq__" (spLbEq cB K)) : FnOk P w K mg base CX0 9 f fd ["_law_script"] (spLaw30 P0 K) := by
  refine ok_def F c_law (fun vs H Q E h => ?_) (fun cdv A outer s H vs Q E hr h => ?_)
  · obtain ⟨a, ns, rfl, _⟩ := h
    rfl
  · obtain ⟨sc, ns, rfl, hl, h63, hP, k⟩ := h
    have nd := c_law.nd
    refine ⟨_, (pss_cons (ps_set (i := 1) nd rfl (by first | exact Or.inl rfl | exact Or.inr rfl) (pe_fn F_law_bag (hr.mono (by decide)) (pa_cons (pv 0) pa_nil)))
      (pss_mid (ps_set (i := 2) nd rfl (by first | exact Or.inl rfl | exact Or.inr rfl) (pe_lst (pa_cons (pe_lst (pa_cons (pe_cr0 RBag (hr.mono (by decide))) (pa_cons (pe_lst pa_nil) (pa_cons pe_int pa_nil)))) pa_nil)))
      (pss_mid (ps_for PassesOwn.never rfl (pi_range1 rfl T.range (pa_cons (pe_op op_add pe_int (pe_fn F_law_draw (hr.mono (by decide)) (pa_cons (pv 1) (pa_cons pe_int pa_nil)))) pa_nil)) (pg_name (i := 3) nd rfl (by first | exact Or.inl rfl | exact Or.inr rfl))
        (pss_cons (ps_set (i := 4) nd rfl (by first | exact Or.inl rfl | exact Or.inr rfl) (pe_fn F_law_of (hr.mono (by decide)) (pa_cons (pv 1) (pa_cons (pv 2) pa_nil))))
        (pss_mid (ps_if (pt_not (pt_val (pe_fn F_law_deed (hr.mono (by decide)) (pa_cons (pv 1) (pa_cons (pv 4) pa_nil)))))
          (pss_one (ps_ret pe_bl))
          pss_nil)
        (pss_mid (ps_if (PW.pt (pw_and (pt_cmpR op_lt (pe_callB cr_len (by rfl) T.len (by decide +kernel) (pa_cons (pv 2) pa_nil)) pe_int (nomark _)) (pw_and1 (pt_cmpR op_eq (pe_fn F_law_draw (hr.mono (by decide)) (pa_cons (pv 1) (pa_cons pe_int pa_nil))) pe_int (nomark _)))))
          (pss_one (ps_expr (pe_bm PySem.F.plainAttrs_list PySem.F.slot_list_append PySem.F.type_list_append mt_append (pv 2) (pa_cons (pe_lst (pa_cons (pe_mt0 MBag_copy (hr.mono (by decide)) (pe_ix ix_list (pv 4) pe_int (fun _ _ => rfl))) (pa_cons (pe_callTy cr_list (by rfl) T.list (by decide +kernel) (pa_cons (pe_ix ix_list (pv 4) pe_int (fun _ _ => rfl)) pa_nil)) (pa_cons (pe_ix ix_list (pv 4) pe_int (fun _ _ => rfl)) pa_nil)))) pa_nil))))
          pss_nil)
        (pss_one (ps_if (PW.pt (pw_and (pt_cmpR op_eq (pe_fn F_law_draw (hr.mono (by decide)) (pa_cons (pv 1) (pa_cons pe_int pa_nil))) pe_int (nomark _)) (pw_and1 (pt_not (pt_val (pe_fn F_law_looks (hr.mono (by decide)) (pa_cons (pv 1) (pa_cons (pe_fn F_law_of (hr.mono (by decide)) (pa_cons (pv 1) (pa_cons (pv 2) pa_nil))) pa_nil))))))))
          (pss_one (ps_ret pe_bl))
          pss_nil))))))
      (pss_mid (ps_for PassesOwn.never rfl (pi_list (pv 2)) (pg_name (i := 4) nd rfl (by first | exact Or.inl rfl | exact Or.inr rfl))
        (pss_one (ps_if (PW.pt (pw_or (pt_not (pt_val (pe_fn F_law_looks (hr.mono (by decide)) (pa_cons (pv 1) (pa_cons (pv 4) pa_nil))))) (pw_or1 (pt_not (pt_val (pe_fn F_law_equal (hr.mono (by decide)) (pa_cons (pv 1) (pa_cons (pv 4) pa_nil))))))))
          (pss_one (ps_ret pe_bl))
          pss_nil)))
      (pss_cons (ps_par (i := 5) (j := 6) (by rfl) nd rfl rfl (by decide) rfl rfl (pa_cons (pe_ix ix_list (pv 2) pe_int (fun _ _ => rfl)) (pa_cons (pe_ix ix_list (pv 2) (pe_un un_neg pe_int) (fun _ _ => rfl)) pa_nil)) (by rfl))
      (pss_one (ps_ret (pe_fn F_law_same (hr.mono (by decide)) (pa_cons (pe_cmpR (op_eqO SBag_eq (hr.mono (by decide))) (pe_ix ix_list (pv 5) pe_int (fun _ _ => rfl)) (pe_ix ix_list (pv 6) pe_int (fun _ _ => rfl)) (nomark _)) (pa_cons (pe_and (pe_cmpR (op_eqD hr.units) (pe_ix ix_list (pv 5) pe_int (fun _ _ => rfl)) (pe_ix ix_list (pv 6) pe_int (fun _ _ => rfl)) (nomark _)) (pe_one (pe_cmpR op_eq (pe_ix ix_list (pv 5) pe_int (fun _ _ => rfl)) (pe_ix ix_list (pv 6) pe_int (fun _ _ => rfl)) (nomark _)))) pa_nil)))))))))), ?_⟩
    show (_ : TS) _ [some _, none, none, none, none, none, none] _
    try dsimp only [cxOf, Cx.nox]
    walk_at "go"
    refine ⟨sc, ns, rfl, hl, h63, fun b H1 hn e1 b1 => ?_⟩
    have T1 : Tabs (CTd P0) H1 := fun p hp => by
      rw [List.mem_singleton.mp hp]
      exact TabS.nil (e1 _ _ hP List.not_mem_nil)
    walk_at "go"
    refine r_mid (fun σ' H' => ∃ L ss cs, σ' = [some (.ref sc), some (.ref b.a), some (.ref L), none, none, none, none] ∧ Sds cB P0 K b L 0 ss cs H') ?_ ?_
    · walk_at "go"
      intro x dx' hx hdx hne
      refine ⟨x, dx', rfl, upd_same, fun d2 hd2 hne2 => ⟨rfl, ?_⟩⟩
      have hdd : d2 ≠ dx' := fun z => by rw [z, upd_ne hne, upd_same] at hd2; cases hd2
      have hd20 : H1 d2 = none := by rw [upd_ne hne2, upd_ne hdd] at hd2; exact hd2
      have e2 : Ext [] H1 (upd (upd (upd (upd H1 dx' (.own x)) x (.ins cB dx' [])) d2 (.dK [])) x (.ins cB dx' (LbFs d2 0))) := (((Ext.refl.new hdx).own hx).own hd20).own hx
      have hx2 : upd (upd (upd (upd H1 dx' (.own x)) x (.ins cB dx' [])) d2 (.dK [])) x (.ins cB dx' (LbFs d2 0)) x = some (.ins cB dx' (LbFs d2 0)) := upd_same
      have hd22 : upd (upd (upd (upd H1 dx' (.own x)) x (.ins cB dx' [])) d2 (.dK [])) x (.ins cB dx' (LbFs d2 0)) d2 = some (.dK []) := by rw [upd_ne hne2, upd_same]
      generalize upd (upd (upd (upd H1 dx' (.own x)) x (.ins cB dx' [])) d2 (.dK [])) x (.ins cB dx' (LbFs d2 0)) = H2 at *
      walk_at "go"
      rename_i p hp sd hsd L hL
      have f1 : Ext [] H2 (upd H2 p (.lst [])) := Ext.refl.new hp
      have f2 : Ext [] (upd H2 p (.lst [])) (upd (upd H2 p (.lst [])) sd (.lst [.ref x, .ref p, .int 0])) := Ext.refl.new hsd
      have f3 : Ext [] (upd (upd H2 p (.lst [])) sd (.lst [.ref x, .ref p, .int 0])) (upd (upd (upd H2 p (.lst [])) sd (.lst [.ref x, .ref p, .int 0])) L (.lst [.ref sd])) := Ext.refl.new hL
      have old : ∀ {G : Hp} {y : Addr}, Ext [] H1 G → G y = none → H1 y = none := fun {G y} e h => by
        cases h0 : H1 y with
        | none => rfl
        | some o => rw [e _ _ h0 List.not_mem_nil] at h; cases h
      have px : x ≠ p := fun z => by rw [← z, hx2] at hp; cases hp
      have pd : d2 ≠ p := fun z => by rw [← z, hd22] at hp; cases hp
      have sx : x ≠ sd := fun z => by rw [← z, f1 _ _ hx2 List.not_mem_nil] at hsd; cases hsd
      have sdd : d2 ≠ sd := fun z => by rw [← z, f1 _ _ hd22 List.not_mem_nil] at hsd; cases hsd
      have sp : p ≠ sd := fun z => by rw [← z, upd_same] at hsd; cases hsd
      have lx : x ≠ L := fun z => by rw [← z, f2 _ _ (f1 _ _ hx2 List.not_mem_nil) List.not_mem_nil] at hL; cases hL
      have ld : d2 ≠ L := fun z => by rw [← z, f2 _ _ (f1 _ _ hd22 List.not_mem_nil) List.not_mem_nil] at hL; cases hL
      have lp : p ≠ L := fun z => by rw [← z, f2 _ _ upd_same List.not_mem_nil] at hL; cases hL
      have ls : sd ≠ L := fun z => by rw [← z, upd_same] at hL; cases hL
      refine ⟨L, [⟨sd, x, d2, p⟩], fun _ => ([], 0), rfl, Sds.one b1 (e2.trans (f1.trans (f2.trans f3))) (T1.ext fun b o h => (e2.trans (f1.trans (f2.trans f3))) b o h List.not_mem_nil) ⟨f3 _ _ upd_same List.not_mem_nil, ⟨dx', [], f3 _ _ (f2 _ _ (f1 _ _ hx2 List.not_mem_nil) List.not_mem_nil) List.not_mem_nil, f3 _ _ (f2 _ _ (f1 _ _ hd22 List.not_mem_nil) List.not_mem_nil) List.not_mem_nil, .nil⟩, [], f3 _ _ (f2 _ _ upd_same List.not_mem_nil) List.not_mem_nil, .nil⟩ upd_same ?_ (fun y hy => ?_) (old (e2.trans (f1.trans f2)) hL) ?_⟩
      · simp only [Sd.own, List.nodup_cons, List.mem_cons, List.not_mem_nil, or_false, not_or]
        exact ⟨⟨Ne.symm sx, Ne.symm sdd, Ne.symm sp⟩, ⟨Ne.symm hne2, px⟩, pd, not_false, .nil⟩
      · simp only [Sd.own, List.mem_cons, List.not_mem_nil, or_false] at hy
        rcases hy with rfl | rfl | rfl | rfl
        · exact old (e2.trans f1) hsd
        · exact hx
        · exact hd20
        · exact old e2 hp
      · simp only [Sd.own, List.mem_cons, List.not_mem_nil, or_false, not_or]
        exact ⟨Ne.symm ls, Ne.symm lx, Ne.symm ld, Ne.symm lp⟩
    rintro σ' H2 ⟨L, ss, cs, rfl, W2⟩
    refine r_mid (fun σ' H' => ∃ ss cs u3 u4, σ' = [some (.ref sc), some (.ref b.a), some (.ref L), u3, u4, none, none] ∧ Sds cB P0 K b L 100 ss cs H') ?_ ?_
    · refine r_for ?_
      walk_at "go"
      refine k_draw W2.bag (by decide) (by decide) fun z H3 z0 z1 b3 n3 => ?_
      have W3 := W2.bg n3 b3
      walk_at "go"
      refine ⟨_, rfl, by omega, by omega, ?_⟩
      refine r_loopR (n := (10 + z).toNat) (fun i σ H' => ∃ ss cs u3 u4, σ = [some (.ref sc), some (.ref b.a), some (.ref L), u3, u4, none, none] ∧ Sds cB P0 K b L i ss cs H') ⟨ss, cs, _, _, rfl, W3⟩ ?_ ?_
      · rintro i σ H4 hi ⟨ss, cs, u3, u4, rfl, W4⟩
        walk_at "go"
        refine ⟨b, L, _, rfl, W4.bag, .inl (.inl W4.lst), Ne.symm W4.lb, by rw [List.length_map]; exact W4.pos, by rw [List.length_map]; have := W4.le; omega, fun j v H5 hv b5 n5 => ?_⟩
        rw [List.getElem?_map] at hv
        cases hs : ss[j]? with
        | none => rw [hs] at hv; cases hv
        | some s =>
        rw [hs] at hv
        cases hv
        have W5 := W4.bg n5 b5
        walk_at "go"
        refine r_mid (fun σ' H' => ∃ cs', σ' = [some (.ref sc), some (.ref b.a), some (.ref L), some (.int (0 + (i : Int))), some (.ref s.sd), none, none] ∧ Sds cB P0 K b L (i + 1) ss cs' H') ?_ ?_
        · obtain ⟨q1, q2, q3⟩ := W5.at_ j s hs
          obtain ⟨o1, o2, o3⟩ := W5.own j s hs
          walk_at "go"
          refine ⟨b, s, _, _, rfl, W5.bag, q1, q2, by omega, o1, o3, W5.tab, fun c' n' H6 e6 b6 S6 g6 hn6 t6 => ?_⟩
          walk_at "run"
          exact ⟨_, rfl, W5.deed hs e6 b6 S6 g6 (by omega) t6⟩
        rintro σ' H6 ⟨cs6, rfl, W6⟩
        refine r_mid (fun σ' H' => ∃ ss' cs', σ' = [some (.ref sc), some (.ref b.a), some (.ref L), some (.int (0 + (i : Int))), some (.ref s.sd), none, none] ∧ Sds cB P0 K b L (i + 1) ss' cs' H') ?_ ?_
        · walk_at "go"
          refine r_len (.inl (.inl (.inl W6.lst))) ?_
          rw [List.length_map]
          walk_at "go"
          refine r_dec (fun h3 => ?_) (fun h3 => ?_)
          · walk_at "go"
            refine k_draw W6.bag (by decide) (by decide) fun y H7 _ _ b7 n7 => ?_
            have W7 := W6.bg n7 b7
            walk_at "go"
            refine r_dec (fun hy => ?_) (fun hy => ?_)
            · obtain ⟨S7, g7, m7⟩ := W7.at_ j s hs
              have hgl := g7.len
              obtain ⟨dx7, l7, ha7, hd7, hl7⟩ := S7.bag
              have hsd : SqL K H7 s.sd [.ref s.a, .ref s.p, .int ((cs6 j).2 : Int)] := .inl (.inl S7.lst)
              walk_at "go"
              refine ⟨.inl ⟨rfl, _, .inl (.inl W7.lst)⟩, ?_⟩
              walk_at "go"
              refine ⟨s.d, s.a, _, _, rfl, S7.bag, by omega, g7.nd, fun d3 a3 H8 h1 h2 hda e8 L8 => ?_⟩
              have S8 := S7.t g7 (ExtT.of e8) (fun _ z => nomatch z) fun _ _ z => nomatch z
              have hsd8 : SqL K H8 s.sd [.ref s.a, .ref s.p, .int ((cs6 j).2 : Int)] := .inl (.inl S8.lst)
              obtain ⟨vs8, hp8, hvs8⟩ := S8.rows
              walk_at "go"
              refine r_list (.inl (.inl (.inl hp8))) fun p3 hp3 => ?_
              have e9 : Ext [] H8 (upd H8 p3 (.lst vs8)) := Ext.refl.new hp3
              have hsd9 : SqL K (upd H8 p3 (.lst vs8)) s.sd [.ref s.a, .ref s.p, .int ((cs6 j).2 : Int)] := lst0 e9 hsd8
              walk_at "go"
              rename_i sd3 hsd3
              have e10 : Ext [] (upd H8 p3 (.lst vs8)) (upd (upd H8 p3 (.lst vs8)) sd3 (.lst [.ref a3, .ref p3, .int ((cs6 j).2 : Int)])) := Ext.refl.new hsd3
              have old : ∀ {G : Hp} {y : Addr}, Ext [] H7 G → G y = none → H7 y = none := fun {G y} e h => by
                cases h0 : H7 y with
                | none => rfl
                | some o => rw [e _ _ h0 List.not_mem_nil] at h; cases h
              obtain ⟨dx8, l8, hA8, hD8, _⟩ := id L8
              have ap : a3 ≠ p3 := fun z => by rw [← z, hA8] at hp3; cases hp3
              have dp : d3 ≠ p3 := fun z => by rw [← z, hD8] at hp3; cases hp3
              have sa : a3 ≠ sd3 := fun z => by rw [← z, e9 _ _ hA8 List.not_mem_nil] at hsd3; cases hsd3
              have sd' : d3 ≠ sd3 := fun z => by rw [← z, e9 _ _ hD8 List.not_mem_nil] at hsd3; cases hsd3
              have ps : p3 ≠ sd3 := fun z => by rw [← z, upd_same] at hsd3; cases hsd3
              have e910 := e9.trans e10
              have hL10 := e910 _ _ (e8 _ _ W7.lst List.not_mem_nil) List.not_mem_nil
              refine r_app hL10 (by rw [List.length_map]; omega) ?_
              refine ⟨ss ++ [⟨sd3, a3, d3, p3⟩], _, rfl, W7.add (by omega) (e8.trans e910) ⟨upd_same, L8.t g7 (ExtT.of e910) (fun _ z => nomatch z) List.not_mem_nil List.not_mem_nil, vs8, e10 _ _ upd_same List.not_mem_nil, hvs8.t g7 (ExtT.of e910) fun _ z => (nomatch z)⟩ g7 m7 ?_ fun y hy => ?_⟩
              · simp only [Sd.own, List.nodup_cons, List.mem_cons, List.not_mem_nil, or_false, not_or]
                exact ⟨⟨Ne.symm sa, Ne.symm sd', Ne.symm ps⟩, ⟨Ne.symm hda, ap⟩, dp, not_false, .nil⟩
              · simp only [Sd.own, List.mem_cons, List.not_mem_nil, or_false] at hy
                rcases hy with rfl | rfl | rfl | rfl
                · exact old (e8.trans e9) hsd3
                · exact h1
                · exact h2
                · exact old e8 hp3
            · exact ⟨ss, cs6, rfl, W7⟩
          · exact ⟨ss, cs6, rfl, W6⟩
        rintro σ' H7 ⟨ss7, cs7, rfl, W7⟩
        walk_at "go"
        refine k_draw W7.bag (by decide) (by decide) fun y H8 _ _ b8 n8 => ?_
        have W8 := W7.bg n8 b8
        walk_at "go"
        refine r_dec (fun hy => ?_) (fun hy => ?_)
        · walk_at "go"
          refine ⟨b, L, _, rfl, W8.bag, .inl (.inl W8.lst), Ne.symm W8.lb, by rw [List.length_map]; exact W8.pos, by rw [List.length_map]; have := W8.le; omega, fun j2 v2 H9 hv2 b9 n9 => ?_⟩
          rw [List.getElem?_map] at hv2
          cases hs2 : ss7[j2]? with
          | none => rw [hs2] at hv2; cases hv2
          | some s2 =>
          rw [hs2] at hv2
          cases hv2
          have W9 := W8.bg n9 b9
          obtain ⟨q1, q2, q3⟩ := W9.at_ j2 s2 hs2
          obtain ⟨o1, o2, o3⟩ := W9.own j2 s2 hs2
          walk_at "go"
          refine ⟨b, s2, _, _, rfl, W9.bag, q1, q2, by omega, o1, o3.ne, fun H10 b10 e10 => ?_⟩
          walk_at "run"
          exact ⟨_, _, _, _, rfl, W9.bg e10 b10⟩
        · exact ⟨_, _, _, _, rfl, W8⟩
      · rintro σ H4 ⟨ss, cs, u3, u4, rfl, W4⟩
        exact ⟨ss, cs, u3, u4, rfl, W4.up (by omega)⟩
    rintro σ' H3 ⟨ss, cs, u3, u4, rfl, W3⟩
    refine r_mid (fun σ' H' => ∃ u3 u4, σ' = [some (.ref sc), some (.ref b.a), some (.ref L), u3, u4, none, none] ∧ Sds cB P0 K b L 100 ss cs H') ?_ ?_
    · refine r_for ?_
      walk_at "go"
      refine ⟨L, rfl, ⟨_, .inl (.inl W3.lst)⟩, ?_⟩
      refine r_loopL (xs := ss.map fun s => V.ref s.sd) (fun i σ H' => ∃ u3 u4, σ = [some (.ref sc), some (.ref b.a), some (.ref L), u3, u4, none, none] ∧ Sds cB P0 K b L 100 ss cs H') ⟨_, _, rfl, W3⟩ (fun i σ H' _ z => by obtain ⟨_, _, _, W⟩ := z; exact .inl (.inl W.lst)) ?_ fun σ H' z => z
      rintro j v σ H4 hv ⟨u3, u4, rfl, W4⟩
      rw [List.getElem?_map] at hv
      cases hs : ss[j]? with
      | none => rw [hs] at hv; cases hv
      | some s =>
      rw [hs] at hv
      cases hv
      obtain ⟨q1, q2, q3⟩ := W4.at_ j s hs
      obtain ⟨o1, o2, o3⟩ := W4.own j s hs
      walk_at "go"
      refine ⟨b, s, _, _, rfl, W4.bag, q1, q2, by omega, o1, o3.ne, fun H5 b5 e5 => ?_⟩
      have W5 := W4.bg e5 b5
      obtain ⟨q1, q2, q3⟩ := W5.at_ j s hs
      walk_at "run"
      refine ⟨b, s, _, _, rfl, W5.bag, q1, q2, by omega, o1, o3.ne, fun H6 b6 e6 => ?_⟩
      walk_at "run"
      exact ⟨_, _, rfl, W5.bg e6 b6⟩
    rintro σ' H4 ⟨u3, u4, rfl, W4⟩
    have hpos := W4.pos
    obtain ⟨s0, hs0⟩ : ∃ s0, ss[0]? = some s0 := ⟨ss[0], List.getElem?_eq_getElem hpos⟩
    obtain ⟨s9, hs9⟩ : ∃ s9, ss[ss.length - 1]? = some s9 := ⟨ss[ss.length - 1], List.getElem?_eq_getElem (by omega)⟩
    have at0 : atI (ss.map fun s => V.ref s.sd) 0 = some (.ref s0.sd) := at_n rfl (by rw [List.getElem?_map, hs0]; rfl)
    have at9 : atI (ss.map fun s => V.ref s.sd) (-1) = some (.ref s9.sd) := by
      unfold atI
      have e : ixN (ss.map fun s => V.ref s.sd).length (-1) = some (ss.length - 1) := by
        unfold ixN
        rw [List.length_map]
        simp only [show ¬ ((0 : Int) ≤ -1) by decide, if_false]
        rw [if_pos (by omega)]
        congr 1
        omega
      rw [e, Option.bind_some, List.getElem?_map, hs9]
      rfl
    walk_at "go"
    refine r_ixL (.inl (.inl W4.lst)) at0 ?_
    walk_at "go"
    refine r_ixL (.inl (.inl W4.lst)) at9 ?_
    walk_at "go"
    obtain ⟨S0, g0, m0⟩ := W4.at_ _ _ hs0
    obtain ⟨S9, g9, m9⟩ := W4.at_ _ _ hs9
    have h0 : SqL K H4 s0.sd [.ref s0.a, .ref s0.p, .int ((cs 0).2 : Int)] := .inl (.inl S0.lst)
    have h9 : SqL K H4 s9.sd [.ref s9.a, .ref s9.p, .int ((cs (ss.length - 1)).2 : Int)] := .inl (.inl S9.lst)
    obtain ⟨vs0, hp0, hvs0⟩ := S0.rows
    obtain ⟨vs9, hp9, hvs9⟩ := S9.rows
    walk_at "go"
    refine eq_bags S0.bag S9.bag ?_
    walk_at "go"
    refine ⟨_, _, .lst (.inl (.inl hp0)) (rows_dp hvs0), .lst (.inl (.inl hp9)) (rows_dp hvs9), g0.rows_shaped, g9.rows_shaped, ?_⟩
    rw [eqvK_rows g0 g9]
    walk_at "go"
    cases hE : PyData.eqv (.list ((cs 0).1.map (·.2))) (.list ((cs (ss.length - 1)).1.map (·.2))) with
    | true =>
      rw [if_pos rfl, Bool.true_and]
      walk_at "go"
      rw [show decide (V.int ((cs 0).2 : Int) = V.int ((cs (ss.length - 1)).2 : Int)) = decide ((cs 0).2 = (cs (ss.length - 1)).2) from decide_eq_decide.mpr ⟨fun z => Int.ofNat.inj (V.int.inj z), fun z => by rw [z]⟩]
      exact k_like (.bl _ _) fun H5 _ => k H5
    | false =>
      rw [if_neg (by simp), Bool.false_and]
      walk_at "go"
      exact k_like (.bl _ _) fun H5 _ => k H5
end
end Yk

set_option maxHeartbeats 0
namespace YkHead
open PySem PySem.Spec PyProof.Rows L2 Yk
theorem facts {P : Program} {w : World} {K : PySem.W.Frag} {h : Heap} {mg : Str → Option Value} {f : Addr} (X : K.In h) (G : h.Ns mainGlobals mg) (hfa : mg ("law" : Str) = some (.ref f)) (c0 : Hk.SaysTb fa fn tf ex h K) :
    ∃ fd : FuncData, (∀ (s : Shared) (v : Value), BindsTo s fd ⟨[v], []⟩ [("_law_script", v)]) ∧ ∀ base : Heap, K.In base → base.Ns mainGlobals mg → (∀ p ∈ [He.cT K ("_law_deed", none)], LamX.TabB base mg p.1 p.2) → FnOk P w K mg base CX0 9 f fd ["_law_script"] (spLaw30 (He.cT K ("_law_deed", none)).2 K) := by
  have c := c0.s
  have m : ex K = true := c.more
  unfold ex at m
  try simp only [Bool.and_eq_true] at m
  have T0 : Bt mg := ⟨(He.free_ok X G (c.fact 35 (f := .free "int") rfl)), (He.free_ok X G (c.fact 37 (f := .free "len") rfl)), (He.free_ok X G (c.fact 38 (f := .free "list") rfl)), (He.free_ok X G (c.fact 44 (f := .free "tuple") rfl)), (He.free_ok X G (c.fact 42 (f := .free "str") rfl)), (He.free_ok X G (c.fact 33 (f := .free "bool") rfl)), (He.free_ok X G (c.fact 39 (f := .free "max") rfl)), (He.free_ok X G (c.fact 40 (f := .free "min") rfl)), (He.free_ok X G (c.fact 31 (f := .free "all") rfl)), (He.free_ok X G (c.fact 32 (f := .free "any") rfl)), (He.free_ok X G (c.fact 43 (f := .free "sum") rfl)), (He.free_ok X G (c.fact 36 (f := .free "isinstance") rfl)), (He.free_ok X G (c.fact 45 (f := .free "zip") rfl)), (He.free_ok X G (c.fact 41 (f := .free "range") rfl)), (He.free_ok X G (c.fact 34 (f := .free "divmod") rfl))⟩
  have TBag : Ct K mg "Bag" (He.ga K "Bag") ["_letters", "_coming"] := ⟨(He.glo_ok X G (c.fact 0 (f := .glo "Bag") rfl)), He.cls_ok (c.fact 1 (f := .cls "Bag") rfl), fun f hf => by
    simp only [List.mem_cons, List.not_mem_nil, or_false] at hf
    rcases hf with rfl | rfl
    · exact He.noat_ok (c.fact 2 (f := .noat "Bag" "_letters") rfl)
    · exact He.noat_ok (c.fact 3 (f := .noat "Bag" "_coming") rfl)⟩
  have YNoSuchLetter : XcT K mg "NoSuchLetter" (He.ga K "NoSuchLetter") "LookupError.__new__" leTail := Xh.xcTB_ok m.1.1.1.1.1.2 (He.glo_ok X G (c.fact 12 (f := .glo "NoSuchLetter") rfl))
  have NNoSuchLetter_number : PySem.W.findIn K (.ref (He.ga K "NoSuchLetter")) "number" = some none := He.eqO_ok m.1.1.1.2
  have mMissing := (He.glo_ok X G (c.fact 13 (f := .glo "Missing") rfl))
  have uBag := of_decide_eq_true m.1.1.1.1.1.1.1.1.1.1.1
  have nBag := of_decide_eq_true m.1.1.1.1.1.1.1.1.1.1.2
  have eNoSuchLetter := of_decide_eq_true m.1.1.2
  have kNoSuchLetter_Missing := of_decide_eq_true m.1.2
  obtain ⟨Ty_Bag, Ki_Bag⟩ := Hk.tyB_ok m.2 (He.cls_ok (c.fact 1 (f := .cls "Bag") rfl))
  obtain ⟨d_law_bag, D_law_bag⟩ := c.def_ 1 (d := dD "_law_bag" 8) rfl
  obtain ⟨d_law_draw, D_law_draw⟩ := c.def_ 2 (d := dD "_law_draw" 9) rfl
  obtain ⟨d_law_of, D_law_of⟩ := c.def_ 3 (d := dD "_law_of" 10) rfl
  obtain ⟨d_law_mixed, D_law_mixed⟩ := c.def_ 4 (d := dD "_law_mixed" 11) rfl
  obtain ⟨d_law_amount, D_law_amount⟩ := c.def_ 5 (d := dD "_law_amount" 12) rfl
  obtain ⟨d_law_same, D_law_same⟩ := c.def_ 6 (d := dD "_law_same" 13) rfl
  obtain ⟨d_law_some, D_law_some⟩ := c.def_ 7 (d := dD "_law_some" 14) rfl
  obtain ⟨d_is_number, D_is_number⟩ := c.def_ 0 (d := dD "is_number" 1) rfl
  obtain ⟨d_Bag___init__, D_Bag___init__⟩ := c.def_ 16 (d := ⟨fun K => He.ma K (He.ga K "Bag") "__init__", "__init__", "Bag.__init__", defArgs (inClass (top 6) 0), defBody (inClass (top 6) 0), defScope (inClass (top 6) 0), [], []⟩) rfl
  obtain ⟨d_Bag___contains__, D_Bag___contains__⟩ := c.def_ 17 (d := ⟨fun K => He.ma K (He.ga K "Bag") "__contains__", "__contains__", "Bag.__contains__", defArgs (inClass (top 6) 8), defBody (inClass (top 6) 8), defScope (inClass (top 6) 8), [], []⟩) rfl
  obtain ⟨d_Bag___len__, D_Bag___len__⟩ := c.def_ 18 (d := ⟨fun K => He.ma K (He.ga K "Bag") "__len__", "__len__", "Bag.__len__", defArgs (inClass (top 6) 10), defBody (inClass (top 6) 10), defScope (inClass (top 6) 10), [], []⟩) rfl
  obtain ⟨d_Bag___bool__, D_Bag___bool__⟩ := c.def_ 19 (d := ⟨fun K => He.ma K (He.ga K "Bag") "__bool__", "__bool__", "Bag.__bool__", defArgs (inClass (top 6) 11), defBody (inClass (top 6) 11), defScope (inClass (top 6) 11), [], []⟩) rfl
  obtain ⟨d_Bag_put, D_Bag_put⟩ := c.def_ 20 (d := ⟨fun K => He.ma K (He.ga K "Bag") "put", "put", "Bag.put", defArgs (inClass (top 6) 1), defBody (inClass (top 6) 1), defScope (inClass (top 6) 1), [], []⟩) rfl
  obtain ⟨d_Bag_letters, D_Bag_letters⟩ := c.def_ 21 (d := ⟨fun K => He.ma K (He.ga K "Bag") "letters", "letters", "Bag.letters", defArgs (inClass (top 6) 4), defBody (inClass (top 6) 4), defScope (inClass (top 6) 4), [], []⟩) rfl
  obtain ⟨d_NoSuchLetter___init__, D_NoSuchLetter___init__⟩ := c.def_ 22 (d := ⟨fun K => He.ma K (He.ga K "NoSuchLetter") "__init__", "__init__", "NoSuchLetter.__init__", defArgs (inClass (top 4) 0), defBody (inClass (top 4) 0), defScope (inClass (top 4) 0), [], []⟩) rfl
  obtain ⟨d_Bag__letter, D_Bag__letter⟩ := c.def_ 23 (d := ⟨fun K => He.ma K (He.ga K "Bag") "_letter", "_letter", "Bag._letter", defArgs (inClass (top 6) 7), defBody (inClass (top 6) 7), defScope (inClass (top 6) 7), [], []⟩) rfl
  obtain ⟨d_Bag_take, D_Bag_take⟩ := c.def_ 24 (d := ⟨fun K => He.ma K (He.ga K "Bag") "take", "take", "Bag.take", defArgs (inClass (top 6) 2), defBody (inClass (top 6) 2), defScope (inClass (top 6) 2), [], []⟩) rfl
  obtain ⟨d_Bag_double, D_Bag_double⟩ := c.def_ 25 (d := ⟨fun K => He.ma K (He.ga K "Bag") "double", "double", "Bag.double", defArgs (inClass (top 6) 3), defBody (inClass (top 6) 3), defScope (inClass (top 6) 3), [], []⟩) rfl
  obtain ⟨d_Bag___eq__, D_Bag___eq__⟩ := c.def_ 26 (d := ⟨fun K => He.ma K (He.ga K "Bag") "__eq__", "__eq__", "Bag.__eq__", defArgs (inClass (top 6) 9), defBody (inClass (top 6) 9), defScope (inClass (top 6) 9), [], []⟩) rfl
  obtain ⟨d_Bag_older, D_Bag_older⟩ := c.def_ 27 (d := ⟨fun K => He.ma K (He.ga K "Bag") "older", "older", "Bag.older", defArgs (inClass (top 6) 5), defBody (inClass (top 6) 5), defScope (inClass (top 6) 5), [], []⟩) rfl
  obtain ⟨d_Bag_copy, D_Bag_copy⟩ := c.def_ 28 (d := ⟨fun K => He.ma K (He.ga K "Bag") "copy", "copy", "Bag.copy", defArgs (inClass (top 6) 6), defBody (inClass (top 6) 6), defScope (inClass (top 6) 6), [], []⟩) rfl
  obtain ⟨d_law_chan, D_law_chan⟩ := c.def_ 9 (d := dD "_law_chan" 16) rfl
  obtain ⟨d_law_word, D_law_word⟩ := c.def_ 8 (d := dD "_law_word" 15) rfl
  obtain ⟨d_law_strange, D_law_strange⟩ := c.def_ 11 (d := dD "_law_strange" 18) rfl
  obtain ⟨d_law_deed, D_law_deed⟩ := c.def_ 12 (d := dD "_law_deed" 19) rfl
  obtain ⟨d_law_looks, D_law_looks⟩ := c.def_ 13 (d := dD "_law_looks" 20) rfl
  obtain ⟨d_law_equal, D_law_equal⟩ := c.def_ 14 (d := dD "_law_equal" 21) rfl
  obtain ⟨d_law, D_law⟩ := c.def_ 15 (d := dD "law" 22) rfl
  obtain ⟨d_law_refused, D_law_refused⟩ := c.def_ 10 (d := dD "_law_refused" 17) rfl
  have e := hfa.symm.trans (He.glo_ok X G (c.fact 29 (f := .glo "law") rfl))
  cases e
  refine ⟨d_law, fun s v => (FunD.bindsA (ps := ["_law_script"]) D_law fun _ _ _ _ _ _ us hl => match us, hl with | [_], _ => rfl) s [v] rfl, fun base _ _ hTB => ?_⟩
  have F_law_bag := f_law_bag (P := P) (w := w) (base := base) D_law_bag (He.glo_ok X G (c.fact 15 (f := .glo "_law_bag") rfl)) T0
  have F_law_draw := f_law_draw (P := P) (w := w) (base := base) D_law_draw (He.glo_ok X G (c.fact 16 (f := .glo "_law_draw") rfl)) T0
  have F_law_of := f_law_of (P := P) (w := w) (base := base) D_law_of (He.glo_ok X G (c.fact 17 (f := .glo "_law_of") rfl)) T0 F_law_draw
  have F_law_mixed := f_law_mixed (P := P) (w := w) (base := base) D_law_mixed (He.glo_ok X G (c.fact 18 (f := .glo "_law_mixed") rfl)) T0 F_law_draw
  have F_law_amount := f_law_amount (P := P) (w := w) (base := base) D_law_amount (He.glo_ok X G (c.fact 19 (f := .glo "_law_amount") rfl)) T0
  have F_law_same0 : Fn P w K mg base 0 "_law_same" (spLike K 0) := fn_none D_law_same (He.glo_ok X G (c.fact 20 (f := .glo "_law_same") rfl))
  have F_law_same1 := f_law_same D_law_same (He.glo_ok X G (c.fact 20 (f := .glo "_law_same") rfl)) T0 0 F_law_same0
  have F_law_same2 := f_law_same D_law_same (He.glo_ok X G (c.fact 20 (f := .glo "_law_same") rfl)) T0 1 F_law_same1
  have F_law_same3 := f_law_same D_law_same (He.glo_ok X G (c.fact 20 (f := .glo "_law_same") rfl)) T0 2 F_law_same2
  have F_law_same4 := f_law_same D_law_same (He.glo_ok X G (c.fact 20 (f := .glo "_law_same") rfl)) T0 3 F_law_same3
  have F_law_same5 := f_law_same D_law_same (He.glo_ok X G (c.fact 20 (f := .glo "_law_same") rfl)) T0 4 F_law_same4
  have F_law_same := F_law_same5
  have F_law_some := f_law_some (P := P) (w := w) (base := base) D_law_some (He.glo_ok X G (c.fact 21 (f := .glo "_law_some") rfl)) T0 F_law_draw F_law_of F_law_amount
  have G_law_same0 : FnT P w K mg base 0 "_law_same" (spLike K 0) := fnT_none (ps := ["_law_told", "_law_due"]) D_law_same (He.glo_ok X G (c.fact 20 (f := .glo "_law_same") rfl)) (fun _ _ _ _ _ _ us hl => match us, hl with | [_, _], _ => rfl) (fun _ _ _ _ h => h)
  have G_law_same1 := h_law_same D_law_same (He.glo_ok X G (c.fact 20 (f := .glo "_law_same") rfl)) T0 0 G_law_same0
  have G_law_same2 := h_law_same D_law_same (He.glo_ok X G (c.fact 20 (f := .glo "_law_same") rfl)) T0 1 G_law_same1
  have G_law_same3 := h_law_same D_law_same (He.glo_ok X G (c.fact 20 (f := .glo "_law_same") rfl)) T0 2 G_law_same2
  have G_law_same4 := h_law_same D_law_same (He.glo_ok X G (c.fact 20 (f := .glo "_law_same") rfl)) T0 3 G_law_same3
  have G_law_same5 := h_law_same D_law_same (He.glo_ok X G (c.fact 20 (f := .glo "_law_same") rfl)) T0 4 G_law_same4
  have G_law_same := G_law_same5
  have Fis_number := f_is_number (P := P) (w := w) (base := base) D_is_number (He.glo_ok X G (c.fact 14 (f := .glo "is_number") rfl)) T0
  have OBag___init__ := f_Bag___init__ (P := P) (w := w) (base := base) (cB := He.ga K "Bag") D_Bag___init__ TBag
  have RBag := cr_of (He.glo_ok X G (c.fact 0 (f := .glo "Bag") rfl)) (He.mkr_ok (c.fact 4 (f := .mkr "Bag") rfl)) (raw_meth D_Bag___init__ OBag___init__ (fun _ _ _ _ _ _ us hl => match us, hl with | [_], _ => rfl))
  have OBag___contains__ := f_Bag___contains__ (P := P) (w := w) (base := base) (cB := He.ga K "Bag") D_Bag___contains__ TBag Fis_number
  have SBag_contains := Xh.sm_of m.1.1.1.1.1.1.1.1.1.2 OBag___contains__ (FunD.bindsN D_Bag___contains__ (fun _ _ _ _ _ _ us hl => match us, hl with | [_, _], _ => rfl))
  have OBag___len__ := f_Bag___len__ (P := P) (w := w) (base := base) (cB := He.ga K "Bag") D_Bag___len__ T0 TBag
  have SBag_len := Xh.sm_of m.1.1.1.1.1.1.1.1.2 OBag___len__ (FunD.bindsN D_Bag___len__ (fun _ _ _ _ _ _ us hl => match us, hl with | [_], _ => rfl))
  have OBag___bool__ := f_Bag___bool__ (P := P) (w := w) (base := base) (cB := He.ga K "Bag") D_Bag___bool__ T0
  have SBag_bool := Xh.sm_of m.1.1.1.1.1.1.1.2 OBag___bool__ (FunD.bindsN D_Bag___bool__ (fun _ _ _ _ _ _ us hl => match us, hl with | [_], _ => rfl))
  have OBag_put := f_Bag_put (P := P) (w := w) (base := base) (cB := He.ga K "Bag") D_Bag_put TBag
  have MBag_put := mt_of (He.cls_ok (c.fact 1 (f := .cls "Bag") rfl)) (He.meth_ok (c.fact 5 (f := .meth "Bag" "put") rfl)) (raw_meth D_Bag_put OBag_put (fun _ _ _ _ _ _ us hl => match us, hl with | [_, _, _, _], _ => rfl))
  have OBag_letters := f_Bag_letters (P := P) (w := w) (base := base) (cB := He.ga K "Bag") D_Bag_letters T0 TBag
  have MBag_letters := mt_of (He.cls_ok (c.fact 1 (f := .cls "Bag") rfl)) (He.meth_ok (c.fact 6 (f := .meth "Bag" "letters") rfl)) (raw_meth D_Bag_letters OBag_letters (fun _ _ _ _ _ _ us hl => match us, hl with | [_], _ => rfl))
  have ONoSuchLetter___init__ := f_NoSuchLetter___init__ (P := P) (w := w) (base := base) (cN := He.ga K "NoSuchLetter") D_NoSuchLetter___init__ YNoSuchLetter NNoSuchLetter_number
  have XNoSuchLetter := Xh.xiT_of YNoSuchLetter m.1.1.1.1.2 ONoSuchLetter___init__ (FunD.bindsN D_NoSuchLetter___init__ (fun _ _ _ _ _ _ us hl => match us, hl with | [_, _], _ => rfl))
  have OBag__letter := f_Bag__letter (P := P) (w := w) (base := base) (cB := He.ga K "Bag") D_Bag__letter TBag SBag_contains
  have MBag__letter := mt_of (He.cls_ok (c.fact 1 (f := .cls "Bag") rfl)) (He.meth_ok (c.fact 7 (f := .meth "Bag" "_letter") rfl)) (raw_meth D_Bag__letter OBag__letter (fun _ _ _ _ _ _ us hl => match us, hl with | [_, _], _ => rfl))
  have ZBag__letter := x_Bag__letter (P := P) (w := w) (base := base) D_Bag__letter TBag SBag_contains XNoSuchLetter
  have XBag__letter : MtX P w K mg base 3 (He.ga K "Bag") "_letter" _ := ⟨_, _, _, He.cls_ok (c.fact 1 (f := .cls "Bag") rfl), He.meth_ok (c.fact 7 (f := .meth "Bag" "_letter") rfl), ZBag__letter, FunD.bindsN D_Bag__letter (fun _ _ _ _ _ _ us hl => match us, hl with | [_, _], _ => rfl)⟩
  have OBag_take := f_Bag_take (P := P) (w := w) (base := base) (cB := He.ga K "Bag") D_Bag_take TBag MBag__letter
  have MBag_take := mt_of (He.cls_ok (c.fact 1 (f := .cls "Bag") rfl)) (He.meth_ok (c.fact 8 (f := .meth "Bag" "take") rfl)) (raw_meth D_Bag_take OBag_take (fun _ _ _ _ _ _ us hl => match us, hl with | [_, _], _ => rfl))
  have ZBag_take := x_Bag_take (P := P) (w := w) (base := base) D_Bag_take TBag XBag__letter
  have XBag_take : MtX P w K mg base 4 (He.ga K "Bag") "take" _ := ⟨_, _, _, He.cls_ok (c.fact 1 (f := .cls "Bag") rfl), He.meth_ok (c.fact 8 (f := .meth "Bag" "take") rfl), ZBag_take, FunD.bindsN D_Bag_take (fun _ _ _ _ _ _ us hl => match us, hl with | [_, _], _ => rfl)⟩
  have OBag_double := f_Bag_double (P := P) (w := w) (base := base) (cB := He.ga K "Bag") D_Bag_double TBag MBag__letter MBag_put
  have MBag_double := mt_of (He.cls_ok (c.fact 1 (f := .cls "Bag") rfl)) (He.meth_ok (c.fact 9 (f := .meth "Bag" "double") rfl)) (raw_meth D_Bag_double OBag_double (fun _ _ _ _ _ _ us hl => match us, hl with | [_, _], _ => rfl))
  have ZBag_double := x_Bag_double (P := P) (w := w) (base := base) D_Bag_double TBag XBag__letter MBag_put
  have XBag_double : MtX P w K mg base 4 (He.ga K "Bag") "double" _ := ⟨_, _, _, He.cls_ok (c.fact 1 (f := .cls "Bag") rfl), He.meth_ok (c.fact 9 (f := .meth "Bag" "double") rfl), ZBag_double, FunD.bindsN D_Bag_double (fun _ _ _ _ _ _ us hl => match us, hl with | [_, _], _ => rfl)⟩
  have OBag___eq__ := f_Bag___eq__ (P := P) (w := w) (base := base) (cB := He.ga K "Bag") D_Bag___eq__ T0 TBag Ty_Bag Ki_Bag
  have SBag_eq := Xh.sm_of m.1.1.1.1.1.1.2 OBag___eq__ (FunD.bindsN D_Bag___eq__ (fun _ _ _ _ _ _ us hl => match us, hl with | [_, _], _ => rfl))
  have OBag___eq__x := x_Bag___eq__ (P := P) (w := w) (base := base) (cB := He.ga K "Bag") D_Bag___eq__ T0 TBag nBag
  have SBag_eqx := Xh.sm_of m.1.1.1.1.1.1.2 OBag___eq__x (FunD.bindsN D_Bag___eq__ (fun _ _ _ _ _ _ us hl => match us, hl with | [_, _], _ => rfl))
  have OBag_older := f_Bag_older (P := P) (w := w) (base := base) (cB := He.ga K "Bag") D_Bag_older TBag MBag_letters
  have MBag_older := mt_of (He.cls_ok (c.fact 1 (f := .cls "Bag") rfl)) (He.meth_ok (c.fact 10 (f := .meth "Bag" "older") rfl)) (raw_meth D_Bag_older OBag_older (fun _ _ _ _ _ _ us hl => match us, hl with | [_, _], _ => rfl))
  have OBag_copy := f_Bag_copy (P := P) (w := w) (base := base) (cB := He.ga K "Bag") D_Bag_copy TBag RBag
  have MBag_copy := mt_of (He.cls_ok (c.fact 1 (f := .cls "Bag") rfl)) (He.meth_ok (c.fact 11 (f := .meth "Bag" "copy") rfl)) (raw_meth D_Bag_copy OBag_copy (fun _ _ _ _ _ _ us hl => match us, hl with | [_], _ => rfl))
  have F_law_chan := f_law_chan (P := P) (w := w) (base := base) D_law_chan (He.glo_ok X G (c.fact 23 (f := .glo "_law_chan") rfl)) T0 F_law_of
  have F_law_word := f_law_word (P := P) (w := w) (base := base) D_law_word (He.glo_ok X G (c.fact 22 (f := .glo "_law_word") rfl)) T0 F_law_draw F_law_of F_law_some
  have F_law_strange := f_law_strange (P := P) (w := w) (base := base) D_law_strange (He.glo_ok X G (c.fact 25 (f := .glo "_law_strange") rfl)) T0 F_law_draw F_law_of
  have L_law_refused := refused_lam (P := P) (w := w) (base := base) D_law_refused (He.glo_ok X G (c.fact 24 (f := .glo "_law_refused") rfl)) T0 YNoSuchLetter NNoSuchLetter_number eNoSuchLetter kNoSuchLetter_Missing mMissing G_law_same
  have F_law_deed := f_law_deed (P := P) (w := w) (base := base) (cB := He.ga K "Bag") (cN := He.ga K "NoSuchLetter") D_law_deed (He.glo_ok X G (c.fact 26 (f := .glo "_law_deed") rfl)) (Hk.code_of (x := "_law_deed") D_law_deed) (hTB _ (List.mem_singleton.mpr rfl)) T0 TBag F_law_draw F_law_of F_law_same F_law_chan F_law_word F_law_strange L_law_refused MBag_put MBag_take MBag_double XBag_take XBag_double SBag_contains
  have F_law_looks := f_law_looks (P := P) (w := w) (base := base) (cB := He.ga K "Bag") D_law_looks (He.glo_ok X G (c.fact 27 (f := .glo "_law_looks") rfl)) T0 TBag F_law_draw F_law_same MBag_letters MBag_older SBag_contains SBag_len SBag_bool
  have F_law_equal := f_law_equal (P := P) (w := w) (base := base) (cB := He.ga K "Bag") D_law_equal (He.glo_ok X G (c.fact 28 (f := .glo "_law_equal") rfl)) T0 TBag uBag RBag F_law_draw F_law_of F_law_mixed F_law_chan F_law_same MBag_put MBag_take MBag_copy SBag_eq SBag_eqx SBag_len
  exact f_law (P := P) (w := w) (base := base) (cB := He.ga K "Bag") D_law (He.glo_ok X G (c.fact 29 (f := .glo "law") rfl)) T0 TBag RBag F_law_bag F_law_draw F_law_of F_law_same F_law_deed F_law_looks F_law_equal MBag_copy SBag_eq
end YkHead
open PySem PySem.W PySem.Calls PyProof.Rows in
theorem PySem.Challenge.cw_bandheld_k30_whole_bags_holds : PySem.Challenge.rw_bandheld_k30_whole_bags.Holds := by
  w_on; o_law
  refine HandSHeadRun.head_imp (r := OpenLaw.row PySem.Challenge.rw_bandheld_k30_whole_bags) (q := view (OpenLaw.row PySem.Challenge.rw_bandheld_k30_whole_bags).prog [22]) (H := YkHead.hk) (ob := YkHead.ob) (M := 8000) (loose := YkHead.loose) (d := HandSHeadRun.topDef (OpenLaw.row PySem.Challenge.rw_bandheld_k30_whole_bags).prog 22) (kwd := []) YkHead.ob_eq YkHead.run
    (by kernel_rfl) (by kernel_rfl) (by kernel_rfl) (by rfl) (by first | assumption | decide +kernel) (by decide +kernel) ⟨rfl, rfl, rfl, rfl, rfl, by decide +kernel⟩ ?hw ?hc
  case hw => w_witness2
  case hc =>
    refine Hk.walk_ofET (l := PySem.Challenge.rw_bandheld_k30_whole_bags) (n := 63) (k := 9) (x := "_law_script") (CX := L2.CX0) rfl (by decide) (by kernel_rfl) ⟨rfl, by decide, by decide⟩ ?F (fun _ _ _ _ z => z)
    intro w mg fa h Y G hmg0
    obtain ⟨K, KX, c⟩ := Y
    have hmg : mg ("law" : PySem.Str) = some (.ref fa) := by
      have e : (HandSHeadRun.topDef (OpenLaw.row PySem.Challenge.rw_bandheld_k30_whole_bags).prog 22).name = ("law" : PySem.Str) := by kernel_rfl
      rw [← e]
      exact hmg0
    obtain ⟨fd, hb, hF⟩ := YkHead.facts (P := (PySem.Challenge.rw_bandheld_k30_whole_bags).prog) (w := w) KX G hmg c
    exact ⟨K, fd, [He.cT K ("_law_deed", none)], Yk.spLaw30 (He.cT K ("_law_deed", none)).2 K, KX, (fun p hp => by rw [List.mem_singleton.mp hp]; exact c.empty _ (List.mem_singleton.mpr rfl)), (fun p hp => by rw [List.mem_singleton.mp hp]; exact c.out _ (List.mem_singleton.mpr rfl)), (fun p hp => by rw [List.mem_singleton.mp hp]; exact PySem.W.codeHd_of_K KX (c.hd _ (List.mem_singleton.mpr rfl))), hb, fun H a ns hl hT hS => ⟨a, ns, rfl, hS, hl, hT _ (List.mem_singleton.mpr rfl), fun _ => rfl⟩, hF⟩

