import PyProof.Rows.All
import Wide.All
import OpenK.AllK
import Wide.FinOn
import HandS.ForMost
import HandS.Defaults
import HandS.Star
import HandS.Gcd
import HandS.Wide
import HandS.HeadHook4
import HandS.NoneIn
import HandS.IsInst
import HandS.Zip
import HandS.HeadEnd
import HandS.Head3
import HandS.Property
import HandS.EndTab
import HandS.Text
import HandS.StrMore
import HandS.FStr
import HandS.Style
import HandS.WideBits
import HandS.MakeKw
import HandS.MakeKwOnly
import HandS.More
import HandS.ClsMeth
import HandS.DictComp
import HandS.Walk
import KE.GoesNew
import KE.GoesMore
import HandS.Lambda
import HandS.SortKw
import KE.SortKeyHeap
import HandS.Conv
import PySem.Challenge.RW_bandheld_k34_whole_disciplines
set_option Elab.async false
set_option linter.all false
set_option maxRecDepth 100000
set_option maxHeartbeats 1000000
/-! The layer over the hand layer: what is kept from heap to heap, amounts as rational numbers, readings step by step. -/
namespace Yk
open PySem PySem.Spec PyProof.Rows L2

/-! ### what is kept: all that is tracked, but what stands at S -/
def Ext (S : List Addr) (H H' : Hp) : Prop := ∀ a o, H a = some o → a ∉ S → H' a = some o
theorem Ext.refl {S : List Addr} {H : Hp} : Ext S H H := fun _ _ h _ => h
theorem Ext.trans {S : List Addr} {H H1 H2 : Hp} (a : Ext S H H1) (b : Ext S H1 H2) : Ext S H H2 := fun x o h n => b x o (a x o h n) n
theorem Ext.mono {S T : List Addr} {H H1 : Hp} (a : Ext S H H1) (h : ∀ x ∈ S, x ∈ T) : Ext T H H1 := fun x o e n => a x o e fun z => n (h x z)
theorem Ext.of0 {T : List Addr} {H H1 : Hp} (a : Ext [] H H1) : Ext T H H1 := a.mono fun _ z => nomatch z
theorem Ext.new {S : List Addr} {H H1 : Hp} {p : Addr} {o : HO} (e : Ext S H H1) (h : H1 p = none) : Ext S H (upd H1 p o) := fun a u ha n => by
  have h1 := e a u ha n
  rw [upd_ne (ne_of_none h1 h)]
  exact h1
theorem Ext.at_ {S : List Addr} {H H1 : Hp} {p : Addr} {o : HO} (e : Ext S H H1) (h : p ∈ S) : Ext S H (upd H1 p o) := fun a u ha n => by
  have h1 : a ≠ p := fun z => n (by rw [z]; exact h)
  rw [upd_ne h1]
  exact e a u ha n
/-- what is new to H may change -/
theorem Ext.own {S : List Addr} {H H1 : Hp} {p : Addr} {o : HO} (e : Ext S H H1) (h : H p = none) : Ext S H (upd H1 p o) := fun a u ha n => by
  rw [upd_ne (ne_of_none ha h)]
  exact e a u ha n
theorem Ext.free {H H1 : Hp} (e : Ext [] H H1) {p : Addr} (h : H1 p = none) : H p = none := by
  cases h1 : H p with
  | none => rfl
  | some o =>
    rw [e p o h1 (fun z => nomatch z)] at h
    cases h
theorem Ext.freeS {S : List Addr} {H H1 : Hp} (e : Ext S H H1) {p : Addr} (h : H1 p = none) (hs : ∀ a ∈ S, H1 a ≠ none) : H p = none := by
  cases h1 : H p with
  | none => rfl
  | some o =>
    rw [e p o h1 (fun z => hs p z h)] at h
    cases h

/-- the tuple at a, the list at a, carried on -/
theorem tupX {S : List Addr} {K : PySem.W.Frag} {H H1 : Hp} {a : Addr} {xs : List V} (e : Ext S H H1) (h : SqT K H a xs) (hs : ∀ b ∈ S, ∃ l, H b = some (.lst l)) : SqT K H1 a xs := by
  rcases h with (h | ⟨o, h⟩) | h
  · exact .inl (.inl (e a _ h fun z => by obtain ⟨l, q⟩ := hs a z; rw [h] at q; cases q))
  · exact .inl (.inr ⟨o, e a _ h fun z => by obtain ⟨l, q⟩ := hs a z; rw [h] at q; cases q⟩)
  · exact .inr h
theorem tup0 {K : PySem.W.Frag} {H H1 : Hp} {a : Addr} {xs : List V} (e : Ext [] H H1) (h : SqT K H a xs) : SqT K H1 a xs := tupX e h fun _ z => nomatch z
theorem tupN {K : PySem.W.Frag} {H : Hp} {a p : Addr} {o : HO} {xs : List V} (h : SqT K H a xs) (hp : H p = none) : SqT K (upd H p o) a xs := tup0 (Ext.refl.new hp) h
theorem tupW {K : PySem.W.Frag} {H : Hp} {a p : Addr} {l l' : List V} {xs : List V} (h : SqT K H a xs) (hp : H p = some (.lst l)) : SqT K (upd H p (.lst l')) a xs :=
  tupX (S := [p]) (Ext.refl.at_ List.mem_cons_self) h fun b hb => by rw [List.mem_singleton.mp hb]; exact ⟨l, hp⟩
theorem tupS {K : PySem.W.Frag} {H : Hp} {p : Addr} {xs : List V} : SqT K (upd H p (.tup xs)) p xs := .inl (.inl upd_same)
theorem lstX {S : List Addr} {K : PySem.W.Frag} {H H1 : Hp} {a : Addr} {xs : List V} (e : Ext S H H1) (h : SqL K H a xs) (hs : a ∉ S) : SqL K H1 a xs := by
  rcases h with (h | ⟨o, h⟩) | h
  · exact .inl (.inl (e a _ h hs))
  · exact .inl (.inr ⟨o, e a _ h hs⟩)
  · exact .inr h
theorem lst0 {K : PySem.W.Frag} {H H1 : Hp} {a : Addr} {xs : List V} (e : Ext [] H H1) (h : SqL K H a xs) : SqL K H1 a xs := lstX e h fun z => nomatch z
theorem lstN {K : PySem.W.Frag} {H : Hp} {a p : Addr} {o : HO} {xs : List V} (h : SqL K H a xs) (hp : H p = none) : SqL K (upd H p o) a xs := lst0 (Ext.refl.new hp) h
theorem lstS {K : PySem.W.Frag} {H : Hp} {p : Addr} {xs : List V} : SqL K (upd H p (.lst xs)) p xs := .inl (.inl upd_same)

/-! ### a def by its name -/
section
variable (P : Program) (w : World) (K : PySem.W.Frag) (mg : Str → Option Value) (base : Heap)
structure Fn (k : Nat) (x : Str) (sp : Sp) : Prop where
  run : ∃ f, mg x = some (.ref f) ∧ PySem.W.keepIn K (.ref f) = true ∧ FnR P w K mg base CX0 k f sp
end
section
variable {X : Cx} {k : Nat} {sp : Sp} {x : Str} {p pos : Pos} {e : Expr} {es : List Expr} {t : TA}
def tR (sp : Sp) (t : TA) : TE := fun σ H Q => t σ H fun vs H1 => sp vs H1 Q E0
theorem pe_fn (F : Fn X.prog X.w X.K X.mg X.base k x sp) (hr : Room k X.A) (ha : PA X (e :: es) t) (hg : Gl X x := by rfl) (hdb : (x == ("__debug__" : Str)) = false := by decide)
    (hx : Passes CX0 X E0 := by exact pass0)
    (he : starEach (e :: es) X.env = (false, eval e X.env) :: starEach es X.env := by rfl) (hpl : (backTo pos (starEach es X.env)).any (·.1) = false := by rfl) :
    PE X (.Call (.Name x p) (e :: es) [] pos) (tR sp t) := by
  obtain ⟨f, hm, hk, F⟩ := F.run
  refine ⟨fun pins s σ H Q I h => ?_⟩
  refine wpAny_Call_Name_kw (ld_glob I hg hm ?_ hdb)
  refine PySem.W.callWith_K (h₀ := X.base) I.ok.mod.kin hk (thn (ha.run pos pins s σ H _ I h) fun us s1 ⟨vs, H1, I1, r, q⟩ => ⟨I1.kIn, ?_⟩) he hpl
  exact wpAny_call (run_fnR F hr hx I1 r q)
theorem Fn.mono {P : Program} {w : World} {K : PySem.W.Frag} {mg : Str → Option Value} {base : Heap} {j k : Nat} {x : Str} {sp : Sp} (F : Fn P w K mg base j x sp) (h : j ≤ k) : Fn P w K mg base k x sp := by
  obtain ⟨f, hm, hk, F⟩ := F.run
  exact ⟨f, hm, hk, F.mono h⟩
end
/-- how a def of the text keeps a promise -/
theorem fn_def {P : Program} {w : World} {K : PySem.W.Frag} {mg : Str → Option Value} {base : Heap} {x : Str} {params : Arguments} {body : List Stmt} {scope : Scope} {f : Addr} {fd : FuncData} {N ps : List Str} {k : Nat} {sp : Sp}
    (F : FunD K x x params body scope [] [] f fd) (hm : mg x = some (.ref f)) (S : FnScope N ps scope) (len : ∀ vs H Q E, sp vs H Q E → vs.length = ps.length)
    (hb : ∀ (kV doc pm : Value) (an : Option Addr) (cdv ct : Value) (us : List Value), us.length = ps.length → bindArgs (PySem.W.fnOf x x params body scope .none kV doc pm an cdv ct) ⟨us, []⟩ = pure (ps.zip us))
    (hbody : ∀ (cdv : Value) (A : Around) (outer : List Env) (s : Shared) (H : Hp) (vs : List V) (Q : VK) (E : XK), Room k (A.deeper (envOfC x scope s.heap.objs.size f cdv)) → sp vs H Q E →
      ∃ t, PSs (cxOf CX0 P w K mg base N x scope f cdv A outer s H E).nox body t ∧ t ⟨fun _ H' => Q .non H', Q, fun _ _ => False, fun _ _ => False⟩ (start N vs) H) : Fn P w K mg base (k + 1) x sp := by
  have G : FnOk P w K mg base CX0 (k + 1) f fd ps sp := F.ok S len fun cdv A outer s H vs Q E hr h => by
    obtain ⟨t, h1, h2⟩ := hbody cdv A outer s H vs Q E hr h
    exact ⟨t, h1.nox, h2⟩
  have b := F.bindsN hb
  have R := G.raw b .nil
  refine ⟨f, hm, F.kp, R.imp fun vs H Q E h => ?_⟩
  rw [List.append_nil]
  exact h

/-! ### len, list by names -/
def rLn (K : PySem.W.Frag) : List V → Hp → VK → Prop := fun xs H Q => ∃ p ys, xs = [.ref p] ∧ (SqL K H p ys ∨ SqT K H p ys) ∧ Q (.int ys.length) H
def rLs (K : PySem.W.Frag) : List V → Hp → VK → Prop := fun xs H Q => ∃ p ys, xs = [.ref p] ∧ (SqL K H p ys ∨ SqT K H p ys) ∧ ∀ l, H l = none → Q (.ref l) (upd H l (.lst ys))
section
variable {X : Cx}
theorem cr_len : CallR X (.builtin "len") (rLn X.K) := call_len_seq
theorem cr_list : CallR X (.type "list") (rLs X.K) := call_list_of
end
/-! ### readings, one step each -/
section
variable {nx : L2.St → Hp → Prop} {rt : VK} {bk ct : L2.St → Hp → Prop} {σ : L2.St} {H : Hp} {K : PySem.W.Frag} {Q : VK} {t u : TS} {te ta tb : TE} {g : TG} {c : TT} {v x y : V}
theorem r_seq (h : t ⟨u ⟨nx, rt, bk, ct⟩, rt, bk, ct⟩ σ H) : tSeq t u ⟨nx, rt, bk, ct⟩ σ H := h
theorem r_next (h : nx σ H) : tNext ⟨nx, rt, bk, ct⟩ σ H := h
theorem r_asg (h : te σ H fun x H1 => g x σ H1 nx) : tAsg te g ⟨nx, rt, bk, ct⟩ σ H := h
theorem r_ret (h : te σ H rt) : tRet te ⟨nx, rt, bk, ct⟩ σ H := h
theorem r_drop (h : te σ H fun _ H1 => nx σ H1) : tDrop te ⟨nx, rt, bk, ct⟩ σ H := h
theorem r_ifS (h : c σ H fun b H1 => if b = true then t ⟨nx, rt, bk, ct⟩ σ H1 else u ⟨nx, rt, bk, ct⟩ σ H1) : tIfS c t u ⟨nx, rt, bk, ct⟩ σ H := h
theorem r_par {i j : Nat} {ta : TA} (h : ta σ H fun vs H1 => ∃ v w, vs = [v, w] ∧ nx ((σ.set i (some v)).set j (some w)) H1) : tPar i j ta ⟨nx, rt, bk, ct⟩ σ H := h
theorem r_name {i : Nat} {R : L2.St → Hp → Prop} (h : R (σ.set i (some v)) H) : gName i v σ H R := h
theorem r_gTup {n : Nat} {ts : TGs} {a : Addr} {xs : List V} {R : L2.St → Hp → Prop} (h1 : SqT K H a xs) (h2 : xs.length = n) (h : ts xs σ H R) : gTup K n ts (.ref a) σ H R := ⟨a, xs, rfl, h1, h2, h⟩
theorem r_gCons {ts : TGs} {vs : List V} {R : L2.St → Hp → Prop} (h : g v σ H fun σ' H' => ts vs σ' H' R) : gCons g ts (v :: vs) σ H R := ⟨v, vs, rfl, h⟩
theorem r_gNil {R : L2.St → Hp → Prop} (h : R σ H) : gNil [] σ H R := ⟨rfl, h⟩
theorem r_gSub {to ti : TE} {ts : TSet} {R : L2.St → Hp → Prop} (h : to σ H fun o H1 => ti σ H1 fun i H2 => ts o i v H2 fun H3 => R σ H3) : gSub to ti ts v σ H R := h
theorem r_var {i : Nat} (h1 : σ[i]? = some (some v)) (h : Q v H) : tVar i σ H Q := ⟨v, h1, h⟩
theorem r_c (h : Q v H) : tC v σ H Q := h
theorem r_op {r : R2} (h : ta σ H fun x H1 => tb σ H1 fun y H2 => r x y H2 Q) : tOp r ta tb σ H Q := h
theorem r_un {r : V → Hp → VK → Prop} (h : ta σ H fun x H1 => r x H1 Q) : tUn r ta σ H Q := h
theorem r_I0 {f : Int → Int → V} {i j : Int} (h : Q (f i j) H) : rI0 f (.int i) (.int j) H Q := ⟨i, j, rfl, rfl, h⟩
theorem r_I {C : Int → Int → Prop} {f : Int → Int → V} {i j : Int} (hc : C i j) (h : Q (f i j) H) : rI C f (.int i) (.int j) H Q := ⟨i, j, rfl, rfl, hc, h⟩
theorem r_U {f : Int → V} {i : Int} (h : Q (f i) H) : rU f (.int i) H Q := ⟨i, rfl, h⟩
theorem r_ixT {p : Addr} {xs : List V} {i : Int} (h1 : SqT K H p xs) (h2 : atI xs i = some v) (h : Q v H) : rIxT K (.ref p) (.int i) H Q := ⟨p, xs, i, v, rfl, rfl, h1, h2, h⟩
theorem r_ixL {p : Addr} {xs : List V} {i : Int} (h1 : SqL K H p xs) (h2 : atI xs i = some v) (h : Q v H) : rIxL K (.ref p) (.int i) H Q := ⟨p, xs, i, v, rfl, rfl, h1, h2, h⟩
theorem r_cons {t : TA} {R : List V → Hp → Prop} (h : ta σ H fun x H1 => t σ H1 fun xs H2 => R (x :: xs) H2) : tCons ta t σ H R := h
theorem r_nil {R : List V → Hp → Prop} (h : R [] H) : tNil σ H R := h
theorem r_tup {t : TA} (h : t σ H fun xs H1 => xs.length ≤ sizeLine ∧ ∀ p, H1 p = none → Q (.ref p) (upd H1 p (.tup xs))) : tTup t σ H Q := h
theorem r_lst {t : TA} (h : t σ H fun xs H1 => xs.length ≤ sizeLine ∧ ∀ p, H1 p = none → Q (.ref p) (upd H1 p (.lst xs))) : tLst t σ H Q := h
theorem r_CB {r : List V → Hp → VK → Prop} {t : TA} (h : t σ H fun vs H1 => r vs H1 Q) : tCB r t σ H Q := h
theorem r_R {sp : Sp} {t : TA} (h : t σ H fun vs H1 => sp vs H1 Q E0) : tR sp t σ H Q := h
theorem r_gcd {a b : Int} (h : Q (.int ((Nat.gcd a.natAbs b.natAbs : Nat) : Int)) H) : rGcd [.int a, .int b] H Q := ⟨a, b, rfl, h⟩
theorem r_test {R : Bool → Hp → Prop} (h : te σ H fun x H' => ∃ k, x = .bl k ∧ R k H') : tTest te σ H R := h
theorem r_B {R : Bool → Hp → Prop} (h : te σ H fun x H' => ∃ k, x = .bl k ∧ R k H') : tB te σ H R := h
theorem r_bl {b : Bool} {R : Bool → Prop} (h : R b) : ∃ k, V.bl b = .bl k ∧ R k := ⟨b, rfl, h⟩
theorem r_if (h : c σ H fun b H1 => if b = true then ta σ H1 Q else tb σ H1 Q) : tIf c ta tb σ H Q := h
theorem r_and {d : TT} {R : Bool → Hp → Prop} (h : c σ H fun b H1 => if b = true then d σ H1 R else R false H1) : tAnd c d σ H R := h
theorem r_or {d : TT} {R : Bool → Hp → Prop} (h : c σ H fun b H1 => if b = true then R true H1 else d σ H1 R) : tOr c d σ H R := h
theorem r_not {R : Bool → Hp → Prop} (h : c σ H fun b H1 => R (!b) H1) : tNot c σ H R := h
theorem r_eq (hs : scal x y = true) (h : Q (.bl (decide (x = y))) H) : rEq x y H Q := ⟨hs, h⟩
theorem r_ne (hs : scal x y = true) (h : Q (.bl (!decide (x = y))) H) : rNe x y H Q := ⟨hs, h⟩
theorem r_dec {p : Prop} [Decidable p] {A B : Prop} (h1 : p → A) (h2 : ¬ p → B) : if decide p = true then A else B := by
  by_cases hp : p
  · rw [decide_eq_true hp, if_pos rfl]; exact h1 hp
  · rw [decide_eq_false hp, if_neg (by decide)]; exact h2 hp
theorem r_forT {i : Nat} {a : Addr} {xs : List V} (h1 : σ[i]? = some (some (.ref a))) (h2 : SqT K H a xs) (Pv : Nat → L2.St → Hp → Prop) (h0 : Pv 0 σ H) (hl : ∀ i σ H, i ≤ xs.length → Pv i σ H → SqT K H a xs)
    (hs : ∀ i x σ H, xs[i]? = some x → Pv i σ H → g x σ H fun σ2 H2 => t ⟨Pv (i + 1), rt, nx, Pv (i + 1)⟩ σ2 H2) (hd : ∀ σ H, Pv xs.length σ H → nx σ H) : tFor (iTup K (tVar i)) g t ⟨nx, rt, bk, ct⟩ σ H :=
  ⟨_, h1, a, rfl, ⟨xs, h2⟩, for_tup Pv h0 hl hs hd⟩
theorem r_forL {i : Nat} {a : Addr} {xs : List V} (h1 : σ[i]? = some (some (.ref a))) (h2 : SqL K H a xs) (Pv : Nat → L2.St → Hp → Prop) (h0 : Pv 0 σ H) (hl : ∀ i σ H, i ≤ xs.length → Pv i σ H → SqL K H a xs)
    (hs : ∀ i x σ H, xs[i]? = some x → Pv i σ H → g x σ H fun σ2 H2 => t ⟨Pv (i + 1), rt, nx, Pv (i + 1)⟩ σ2 H2) (hd : ∀ σ H, Pv xs.length σ H → nx σ H) : tFor (iList K (tVar i)) g t ⟨nx, rt, bk, ct⟩ σ H :=
  ⟨_, h1, a, rfl, ⟨xs, h2⟩, for_list Pv h0 hl hs hd⟩
theorem r_for {wi : TI} (h : wi σ H fun J H1 => ∃ W : Nat → Nat → L2.St → Hp → Prop, (∃ m, W 0 m σ H1) ∧ ∀ i m σ H, W i m σ H →
  (J.stop i H ∧ nx σ H) ∨ (J.go i H ∧ ∃ N : L2.St → Hp → Prop, (∀ σ' H', N σ' H' → ∃ m', m' < m ∧ W (i + 1) m' σ' H') ∧ ∀ x H', J.yld i H x H' → g x σ H' fun σ2 H2 => t ⟨N, rt, nx, N⟩ σ2 H2)) : tFor wi g t ⟨nx, rt, bk, ct⟩ σ H := h
theorem r_iList {tl : TE} {R : It → Hp → Prop} (h : tl σ H fun x H1 => ∃ a, x = .ref a ∧ (∃ xs, SqL K H1 a xs) ∧ R (Itl K a) H1) : iList K tl σ H R := h
theorem r_iTup {tl : TE} {R : It → Hp → Prop} (h : tl σ H fun x H1 => ∃ a, x = .ref a ∧ (∃ xs, SqT K H1 a xs) ∧ R (Itt K a) H1) : iTup K tl σ H R := h
theorem r_iRng1 {ta : TA} {R : It → Hp → Prop} (h : ta σ H fun vs H1 => ∃ j : Int, vs = [.int j] ∧ -(2 ^ 62) ≤ j ∧ j < 2 ^ 62 ∧ R (Itr 0 j.toNat) H1) : iRng1 ta σ H R := h
theorem r_loopL {a : Addr} {xs : List V} (Pv : Nat → L2.St → Hp → Prop) (h0 : Pv 0 σ H) (hl : ∀ i σ H, i ≤ xs.length → Pv i σ H → SqL K H a xs)
    (hs : ∀ i x σ H, xs[i]? = some x → Pv i σ H → g x σ H fun σ2 H2 => t ⟨Pv (i + 1), rt, nx, Pv (i + 1)⟩ σ2 H2) (hd : ∀ σ H, Pv xs.length σ H → nx σ H) :
    ∃ W : Nat → Nat → L2.St → Hp → Prop, (∃ m, W 0 m σ H) ∧ ∀ i m σ H, W i m σ H →
      ((Itl K a).stop i H ∧ nx σ H) ∨ ((Itl K a).go i H ∧ ∃ N : L2.St → Hp → Prop, (∀ σ' H', N σ' H' → ∃ m', m' < m ∧ W (i + 1) m' σ' H') ∧ ∀ x H', (Itl K a).yld i H x H' → g x σ H' fun σ2 H2 => t ⟨N, rt, nx, N⟩ σ2 H2) :=
  for_list (D := ⟨nx, rt, nx, nx⟩) Pv h0 hl hs hd
theorem r_loopT {a : Addr} {xs : List V} (Pv : Nat → L2.St → Hp → Prop) (h0 : Pv 0 σ H) (hl : ∀ i σ H, i ≤ xs.length → Pv i σ H → SqT K H a xs)
    (hs : ∀ i x σ H, xs[i]? = some x → Pv i σ H → g x σ H fun σ2 H2 => t ⟨Pv (i + 1), rt, nx, Pv (i + 1)⟩ σ2 H2) (hd : ∀ σ H, Pv xs.length σ H → nx σ H) :
    ∃ W : Nat → Nat → L2.St → Hp → Prop, (∃ m, W 0 m σ H) ∧ ∀ i m σ H, W i m σ H →
      ((Itt K a).stop i H ∧ nx σ H) ∨ ((Itt K a).go i H ∧ ∃ N : L2.St → Hp → Prop, (∀ σ' H', N σ' H' → ∃ m', m' < m ∧ W (i + 1) m' σ' H') ∧ ∀ x H', (Itt K a).yld i H x H' → g x σ H' fun σ2 H2 => t ⟨N, rt, nx, N⟩ σ2 H2) :=
  for_tup (D := ⟨nx, rt, nx, nx⟩) Pv h0 hl hs hd
theorem r_loopR {lo : Int} {n : Nat} (Pv : Nat → L2.St → Hp → Prop) (h0 : Pv 0 σ H)
    (hs : ∀ i σ H, i < n → Pv i σ H → g (.int (lo + i)) σ H fun σ2 H2 => t ⟨Pv (i + 1), rt, nx, Pv (i + 1)⟩ σ2 H2) (hd : ∀ σ H, Pv n σ H → nx σ H) :
    ∃ W : Nat → Nat → L2.St → Hp → Prop, (∃ m, W 0 m σ H) ∧ ∀ i m σ H, W i m σ H →
      ((Itr lo n).stop i H ∧ nx σ H) ∨ ((Itr lo n).go i H ∧ ∃ N : L2.St → Hp → Prop, (∀ σ' H', N σ' H' → ∃ m', m' < m ∧ W (i + 1) m' σ' H') ∧ ∀ x H', (Itr lo n).yld i H x H' → g x σ H' fun σ2 H2 => t ⟨N, rt, nx, N⟩ σ2 H2) :=
  for_range (D := ⟨nx, rt, nx, nx⟩) Pv h0 hs hd
theorem r_gUnl {n : Nat} {ts : TGs} {a : Addr} {xs : List V} {R : L2.St → Hp → Prop} (h1 : SqL K H a xs) (h2 : xs.length = n) (h : ts xs σ H R) : gUnl K n ts (.ref a) σ H R := ⟨a, xs, rfl, h1, h2, h⟩
theorem r_BM {T : String} {r : V → List V → Hp → VK → Prop} {to : TE} {ta : TA} (h : to σ H fun x H1 => tyV K T x H1 ∧ ta σ H1 fun xs H2 => r x xs H2 Q) : tBM K T r to ta σ H Q := h
theorem r_BM0 {T : String} {r : V → List V → Hp → VK → Prop} {to : TE} (h : to σ H fun x H1 => tyV K T x H1 ∧ r x [] H1 Q) : tBM0 K T r to σ H Q := h
theorem r_lc {wi : TI} {g : TG} {tt : TT} {te : TE} {vs : List Nat} (h : wi σ H fun J H1 => ∀ D, H1 D = none → ∃ W : Nat → Nat → Hp → Prop, (∃ m, W 0 m (upd H1 D (.lst []))) ∧ ∀ i m H, W i m H →
  (J.stop i H ∧ Q (.ref D) H) ∨ (J.go i H ∧ ∃ Nx : Hp → Prop, (∀ H', Nx H' → ∃ m', m' < m ∧ W (i + 1) m' H') ∧ ∀ x H', J.yld i H x H' → g x (wipe σ vs) H' fun σ2 H2 => wipe σ2 vs = wipe σ vs ∧ tt σ2 H2 fun b H3 =>
    if b = true then te σ2 H3 fun y H4 => ∃ acc, H4 D = some (.lst acc) ∧ acc.length < sizeLine ∧ Nx (upd H4 D (.lst (acc ++ [y]))) else Nx H3)) : tLc wi g tt te vs σ H Q := h
theorem r_yes {R : Bool → Hp → Prop} (h : R true H) : tYes σ H R := h
theorem r_tt {A B : Prop} (h : A) : if true = true then A else B := by rw [if_pos rfl]; exact h
theorem r_popAt {l : Addr} {xs : List V} {i : Int} {k : Nat} {y : V} (h1 : H l = some (.lst xs)) (h2 : i = (k : Int)) (h3 : xs[k]? = some y) (h4 : xs.length ≤ 4000) (h : Q y (upd H l (.lst (xs.eraseIdx k)))) : rPopAt (.ref l) [.int i] H Q := by
  have hk : k < xs.length := (List.getElem?_eq_some_iff.mp h3).1
  have e : ixN xs.length i = some k := by
    unfold ixN
    rw [if_pos (by omega), if_pos (by omega), h2, Int.toNat_natCast]
  exact ⟨l, xs, i, k, y, rfl, rfl, h1, by omega, by omega, (ixN_seq e).1, h3, h⟩
theorem r_lcR {lo : Int} {n : Nat} {g : TG} {tt : TT} {te : TE} {vs : List Nat} {D : Addr} {Qd : Hp → Prop} (Pv : Nat → Hp → Prop) (h0 : Pv 0 (upd H D (.lst [])))
    (hs : ∀ i H, i < n → Pv i H → g (.int (lo + i)) (wipe σ vs) H fun σ2 H2 => wipe σ2 vs = wipe σ vs ∧ tt σ2 H2 fun b H3 =>
      if b = true then te σ2 H3 fun y H4 => ∃ acc, H4 D = some (.lst acc) ∧ acc.length < sizeLine ∧ Pv (i + 1) (upd H4 D (.lst (acc ++ [y]))) else Pv (i + 1) H3) (hd : ∀ H, Pv n H → Qd H) :
    ∃ W : Nat → Nat → Hp → Prop, (∃ m, W 0 m (upd H D (.lst []))) ∧ ∀ i m H, W i m H →
      ((Itr lo n).stop i H ∧ Qd H) ∨ ((Itr lo n).go i H ∧ ∃ Nx : Hp → Prop, (∀ H', Nx H' → ∃ m', m' < m ∧ W (i + 1) m' H') ∧ ∀ x H', (Itr lo n).yld i H x H' → g x (wipe σ vs) H' fun σ2 H2 => wipe σ2 vs = wipe σ vs ∧ tt σ2 H2 fun b H3 =>
        if b = true then te σ2 H3 fun y H4 => ∃ acc, H4 D = some (.lst acc) ∧ acc.length < sizeLine ∧ Nx (upd H4 D (.lst (acc ++ [y]))) else Nx H3) :=
  lc_range (Qd := Qd) Pv h0 hs hd
theorem r_lcL {a : Addr} {xs : List V} {g : TG} {tt : TT} {te : TE} {vs : List Nat} {D : Addr} {Qd : Hp → Prop} (Pv : Nat → Hp → Prop) (h0 : Pv 0 (upd H D (.lst []))) (hl : ∀ i H, i ≤ xs.length → Pv i H → SqL K H a xs)
    (hs : ∀ i x H, xs[i]? = some x → Pv i H → g x (wipe σ vs) H fun σ2 H2 => wipe σ2 vs = wipe σ vs ∧ tt σ2 H2 fun b H3 =>
      if b = true then te σ2 H3 fun y H4 => ∃ acc, H4 D = some (.lst acc) ∧ acc.length < sizeLine ∧ Pv (i + 1) (upd H4 D (.lst (acc ++ [y]))) else Pv (i + 1) H3) (hd : ∀ H, Pv xs.length H → Qd H) :
    ∃ W : Nat → Nat → Hp → Prop, (∃ m, W 0 m (upd H D (.lst []))) ∧ ∀ i m H, W i m H →
      ((Itl K a).stop i H ∧ Qd H) ∨ ((Itl K a).go i H ∧ ∃ Nx : Hp → Prop, (∀ H', Nx H' → ∃ m', m' < m ∧ W (i + 1) m' H') ∧ ∀ x H', (Itl K a).yld i H x H' → g x (wipe σ vs) H' fun σ2 H2 => wipe σ2 vs = wipe σ vs ∧ tt σ2 H2 fun b H3 =>
        if b = true then te σ2 H3 fun y H4 => ∃ acc, H4 D = some (.lst acc) ∧ acc.length < sizeLine ∧ Nx (upd H4 D (.lst (acc ++ [y]))) else Nx H3) :=
  lc_list (Qd := Qd) Pv h0 hl hs hd
theorem r_true {c : Bool} {A B : Prop} (hc : c = true) (h : A) : if c = true then A else B := by rw [if_pos hc]; exact h
theorem r_false {c : Bool} {A B : Prop} (hc : c = false) (h : B) : if c = true then A else B := by rw [hc, if_neg (by decide)]; exact h
theorem len_is {n : Nat} {k : Int} (h : (n : Int) = k) : decide (V.int (n : Int) = V.int k) = true := decide_eq_true (by rw [h])
theorem len_not {n : Nat} {k : Int} (h : (n : Int) ≠ k) : decide (V.int (n : Int) = V.int k) = false := decide_eq_false fun z => h (V.int.inj z)
theorem r_lcZL {a b : Addr} {xs ys : List V} {g : TG} {tt : TT} {te : TE} {vs : List Nat} {D : Addr} {Qd : Hp → Prop} (hl : xs.length = ys.length) (Pv : Nat → Hp → Prop) (h0 : Pv 0 (upd H D (.lst []))) (hq : ∀ i H, Pv i H → SqL K H a xs ∧ SqL K H b ys)
    (hs : ∀ (i : Nat) (x y : V) (T : Addr) (H : Hp), xs[i]? = some x → ys[i]? = some y → Pv i H → H T = none → g (.ref T) (wipe σ vs) (upd H T (.tup [x, y])) fun σ2 H2 => wipe σ2 vs = wipe σ vs ∧ tt σ2 H2 fun b H3 =>
      if b = true then te σ2 H3 fun y H4 => ∃ acc, H4 D = some (.lst acc) ∧ acc.length < sizeLine ∧ Pv (i + 1) (upd H4 D (.lst (acc ++ [y]))) else Pv (i + 1) H3) (hd : ∀ H, Pv xs.length H → Qd H) :
    ∃ W : Nat → Nat → Hp → Prop, (∃ m, W 0 m (upd H D (.lst []))) ∧ ∀ i m H, W i m H →
      ((Itz K a b).stop i H ∧ Qd H) ∨ ((Itz K a b).go i H ∧ ∃ Nx : Hp → Prop, (∀ H', Nx H' → ∃ m', m' < m ∧ W (i + 1) m' H') ∧ ∀ x H', (Itz K a b).yld i H x H' → g x (wipe σ vs) H' fun σ2 H2 => wipe σ2 vs = wipe σ vs ∧ tt σ2 H2 fun b H3 =>
        if b = true then te σ2 H3 fun y H4 => ∃ acc, H4 D = some (.lst acc) ∧ acc.length < sizeLine ∧ Nx (upd H4 D (.lst (acc ++ [y]))) else Nx H3) := by
  refine ⟨fun i m H => m = xs.length - i ∧ i ≤ xs.length ∧ Pv i H, ⟨xs.length, rfl, Nat.zero_le _, h0⟩, ?_⟩
  rintro i m H ⟨rfl, hi, p⟩
  obtain ⟨qx, qy⟩ := hq i H p
  by_cases hlt : i < xs.length
  · have hx : xs[i]? = some xs[i] := List.getElem?_eq_getElem hlt
    have hlt2 : i < ys.length := by omega
    have hy : ys[i]? = some ys[i] := List.getElem?_eq_getElem hlt2
    refine .inr ⟨⟨xs, ys, _, _, qx, qy, hx, hy⟩, Pv (i + 1), fun H' p' => ⟨xs.length - (i + 1), by omega, rfl, hlt, p'⟩, fun v H' y => ?_⟩
    obtain ⟨T, x', y', rfl, hT, rfl, f1, f2⟩ := y
    exact hs i x' y' T _ (f1 xs qx) (f2 ys qy) p hT
  · have e : i = xs.length := by omega
    subst e
    exact .inl ⟨⟨xs, ys, qx, qy, .inl (Nat.le_refl _)⟩, hd H p⟩
theorem r_lcZT {a b : Addr} {xs ys : List V} {g : TG} {tt : TT} {te : TE} {vs : List Nat} {D : Addr} {Qd : Hp → Prop} (hl : xs.length = ys.length) (Pv : Nat → Hp → Prop) (h0 : Pv 0 (upd H D (.lst []))) (hq : ∀ i H, Pv i H → SqT K H a xs ∧ SqT K H b ys)
    (hs : ∀ (i : Nat) (x y : V) (T : Addr) (H : Hp), xs[i]? = some x → ys[i]? = some y → Pv i H → H T = none → g (.ref T) (wipe σ vs) (upd H T (.tup [x, y])) fun σ2 H2 => wipe σ2 vs = wipe σ vs ∧ tt σ2 H2 fun b H3 =>
      if b = true then te σ2 H3 fun y H4 => ∃ acc, H4 D = some (.lst acc) ∧ acc.length < sizeLine ∧ Pv (i + 1) (upd H4 D (.lst (acc ++ [y]))) else Pv (i + 1) H3) (hd : ∀ H, Pv xs.length H → Qd H) :
    ∃ W : Nat → Nat → Hp → Prop, (∃ m, W 0 m (upd H D (.lst []))) ∧ ∀ i m H, W i m H →
      ((RZ.ItzT K a b).stop i H ∧ Qd H) ∨ ((RZ.ItzT K a b).go i H ∧ ∃ Nx : Hp → Prop, (∀ H', Nx H' → ∃ m', m' < m ∧ W (i + 1) m' H') ∧ ∀ x H', (RZ.ItzT K a b).yld i H x H' → g x (wipe σ vs) H' fun σ2 H2 => wipe σ2 vs = wipe σ vs ∧ tt σ2 H2 fun b H3 =>
        if b = true then te σ2 H3 fun y H4 => ∃ acc, H4 D = some (.lst acc) ∧ acc.length < sizeLine ∧ Nx (upd H4 D (.lst (acc ++ [y]))) else Nx H3) := by
  refine ⟨fun i m H => m = xs.length - i ∧ i ≤ xs.length ∧ Pv i H, ⟨xs.length, rfl, Nat.zero_le _, h0⟩, ?_⟩
  rintro i m H ⟨rfl, hi, p⟩
  obtain ⟨qx, qy⟩ := hq i H p
  by_cases hlt : i < xs.length
  · have hx : xs[i]? = some xs[i] := List.getElem?_eq_getElem hlt
    have hlt2 : i < ys.length := by omega
    have hy : ys[i]? = some ys[i] := List.getElem?_eq_getElem hlt2
    refine .inr ⟨⟨xs, ys, _, _, qx, qy, hx, hy⟩, Pv (i + 1), fun H' p' => ⟨xs.length - (i + 1), by omega, rfl, hlt, p'⟩, fun v H' y => ?_⟩
    obtain ⟨T, x', y', rfl, hT, rfl, f1, f2⟩ := y
    exact hs i x' y' T _ (f1 xs qx) (f2 ys qy) p hT
  · have e : i = xs.length := by omega
    subst e
    exact .inl ⟨⟨xs, ys, qx, qy, .inl (Nat.le_refl _)⟩, hd H p⟩
theorem tyT {a : Addr} {xs : List V} (h : SqT K H a xs) : TyX K H (.ref a) (.type "tuple") := by
  rcases h with (h | ⟨o, h⟩) | ⟨o, its, n, h, c, _⟩
  · exact .base (.tup h)
  · exact .fTuple h
  · exact .kTuple h c
theorem tyL {a : Addr} {xs : List V} (h : SqL K H a xs) : TyX K H (.ref a) (.type "list") := by
  rcases h with (h | ⟨o, h⟩) | ⟨o, its, n, h, c, _⟩
  · exact .base (.lst h)
  · exact .base (.frz h)
  · exact .kList h c
theorem r_isi {T c : String} {b : Bool} (ht : TyX K H x (.type T)) (he : PySem.W.kitOne K (.type T) (.type c) = some b) (h : Q (.bl b) H) : rIsi K [x, .ty c] H Q := ⟨x, .ty c, .type T, .type c, b, rfl, .ty c, ht, he, h⟩
theorem r_isiT {T c1 c2 : String} {b : Bool} {p : Addr} (hp : H p = some (.tup [.ty c1, .ty c2])) (ht : TyX K H x (.type T)) (he : PySem.W.kitAny K (.type T) [.type c1, .type c2] = some b) (h : Q (.bl b) H) : rIsiT K [x, .ref p] H Q :=
  ⟨x, p, [.ty c1, .ty c2], .type T, [.type c1, .type c2], b, rfl, hp, .cons (.ty c1) (.cons (.ty c2) .nil), ht, he, h⟩
theorem r_andV (h : ta σ H fun x H1 => ∃ c, x = .bl c ∧ if c = true then tb σ H1 Q else Q (.bl false) H1) : tAndV ta tb σ H Q := h
theorem r_orV (h : ta σ H fun x H1 => ∃ c, x = .bl c ∧ if c = true then Q (.bl true) H1 else tb σ H1 Q) : tOrV ta tb σ H Q := h
theorem r_notV (h : ta σ H fun x H1 => ∃ c, x = .bl c ∧ Q (.bl (!c)) H1) : tNotV ta σ H Q := h
theorem r_all {a : Addr} {bs : List Bool} (h1 : SqL K H a (bs.map V.bl)) (h : Q (.bl (bs.all id)) H) : rAll K [.ref a] H Q := ⟨a, bs, rfl, h1, h⟩
theorem r_any {a : Addr} {bs : List Bool} (h1 : SqL K H a (bs.map V.bl)) (h : Q (.bl (bs.any id)) H) : rAny K [.ref a] H Q := ⟨a, bs, rfl, h1, h⟩
theorem r_iZip {ta : TA} {R : It → Hp → Prop} (h : ta σ H fun vs H1 => ∃ a b xs ys, vs = [.ref a, .ref b] ∧ ((SqL K H1 a xs ∧ SqL K H1 b ys ∧ R (Itz K a b) H1) ∨ (SqT K H1 a xs ∧ SqT K H1 b ys ∧ R (RZ.ItzT K a b) H1))) : RZ.iZipA K ta σ H R := h
theorem r_while (W : Nat → L2.St → Hp → Prop) (m : Nat) (h0 : W m σ H) (hs : ∀ m σ H, W m σ H → c σ H fun b H1 => if b = true then ∃ N : L2.St → Hp → Prop, (∀ σ' H', N σ' H' → ∃ m', m' < m ∧ W m' σ' H') ∧ t ⟨N, rt, nx, N⟩ σ H1 else nx σ H1) : tWhile c t ⟨nx, rt, bk, ct⟩ σ H :=
  ⟨W, ⟨m, h0⟩, hs⟩
theorem r_slL {te : TE} {tl th : TO} {r : V → Option Int → Option Int → Hp → VK → Prop} (h : te σ H fun x H1 => tl σ H1 fun l H2 => th σ H2 fun u H3 => r x l u H3 Q) : tSl r te tl th σ H Q := h
theorem r_noP {R : Option Int → Hp → Prop} (h : R none H) : tNoPart σ H R := h
theorem r_part {te : TE} {R : Option Int → Hp → Prop} (h : te σ H fun x H1 => ∃ i, x = .int i ∧ R (some i) H1) : tPart te σ H R := h
theorem r_exI {i : Int} {R : Int → Prop} (h : R i) : ∃ j, V.int i = .int j ∧ R j := ⟨i, rfl, h⟩
theorem r_slList {a : Addr} {xs : List V} {lo hi : Option Int} (h1 : SqL K H a xs) (h : ∀ p, H p = none → Q (.ref p) (upd H p (.lst (cutV xs lo hi)))) : rSlL K (.ref a) lo hi H Q := ⟨a, xs, rfl, h1, h⟩
theorem r_setL {p : Addr} {xs : List V} {k : Int} {j : Nat} {R : Hp → Prop} (h1 : H p = some (.lst xs)) (h2 : ixN xs.length k = some j) (h : R (upd H p (.lst (xs.set j v)))) : rSetL (.ref p) (.int k) v H R := ⟨p, xs, k, j, rfl, rfl, h1, h2, h⟩
theorem r_int {i : Int} {R : Int → Prop} {B : Prop} (h : R i) : (∃ j, [V.int i] = [.int j] ∧ R j) ∨ B := .inl ⟨i, rfl, h⟩
theorem r_len {p : Addr} {ys : List V} (h1 : SqL K H p ys ∨ SqT K H p ys) (h : Q (.int ys.length) H) : rLn K [.ref p] H Q := ⟨p, ys, rfl, h1, h⟩
theorem r_list {p : Addr} {ys : List V} (h1 : SqL K H p ys ∨ SqT K H p ys) (h : ∀ l, H l = none → Q (.ref l) (upd H l (.lst ys))) : rLs K [.ref p] H Q := ⟨p, ys, rfl, h1, h⟩
end
section
variable {X : Cx}
/-- a statement, then the rest, a word of one's own between them -/
def tMid (t u : TS) : TS := fun D σ H => ∃ M : L2.St → Hp → Prop, t ⟨M, D.rt, D.bk, D.ct⟩ σ H ∧ ∀ σ' H', M σ' H' → u D σ' H'
theorem pss_mid {st : Stmt} {rest : List Stmt} {t u : TS} (h1 : PS X st t) (h2 : PSs X rest u) : PSs X (st :: rest) (tMid t u) := by
  refine ⟨fun pins s σ H D I h => ?_⟩
  obtain ⟨M, hm, hu⟩ := h
  refine wpAny_execs_cons (thn (h1.run pins s σ H ⟨M, D.rt, D.bk, D.ct⟩ I hm) fun f s1 q => ?_)
  cases f with
  | next =>
    obtain ⟨σ', H', I', q⟩ := q
    exact h2.run pins s1 σ' H' D I' (hu σ' H' q)
  | ret v => exact q
  | brk => exact q
  | cont => exact q
theorem r_mid {t u : TS} {nx : L2.St → Hp → Prop} {rt : VK} {bk ct : L2.St → Hp → Prop} {σ : L2.St} {H : Hp} (M : L2.St → Hp → Prop) (h1 : t ⟨M, rt, bk, ct⟩ σ H) (h2 : ∀ σ' H', M σ' H' → u ⟨nx, rt, bk, ct⟩ σ' H') : tMid t u ⟨nx, rt, bk, ct⟩ σ H := ⟨M, h1, h2⟩
/-- a store into a list: the heap behind it by a name -/
theorem r_setB {K : PySem.W.Frag} {H : Hp} {b : Addr} {l : List V} {k : Int} {j : Nat} {v : V} {R : Hp → Prop} (h1 : H b = some (.lst l)) (h2 : ixN l.length k = some j) (l' : List V) (h3 : l.set j v = l')
    (h : ∀ H1, H1 b = some (.lst l') → Ext [b] H H1 → (∀ a xs, SqL K H a xs → xs ≠ l → SqL K H1 a xs) → R H1) : rSetL (.ref b) (.int k) v H R := by
  refine ⟨b, l, k, j, rfl, rfl, h1, h2, h _ ?_ (Ext.refl.at_ List.mem_cons_self) fun a xs q hd => ?_⟩
  · rw [h3]
    exact upd_same
  · rcases q with (q | ⟨u, q⟩) | q
    · exact .inl (.inl (by rw [upd_ne (fun z => hd (by rw [z, h1] at q; cases q; rfl))]; exact q))
    · exact .inl (.inr ⟨u, by rw [upd_ne (fun z => by rw [z, h1] at q; cases q)]; exact q⟩)
    · exact .inr q
end
section
variable {P : Program} {w : World} {K : PySem.W.Frag} {mg : Str → Option Value} {base : Heap}
/-- def f(a, .., *v) -/
theorem fn_star {x pv : Str} {params : Arguments} {body : List Stmt} {scope : Scope} {f : Addr} {fd : FuncData} {N ps : List Str} {k : Nat} {sp sp' : Sp}
    (F : FunD K x x params body scope [] [] f fd) (hm : mg x = some (.ref f)) (S : FnScope N (ps ++ [pv]) scope)
    (hb : ∀ (kV doc pm : Value) (an : Option Addr) (cdv ct : Value) (us rest : List Value), us.length = ps.length → bindArgs (PySem.W.fnOf x x params body scope .none kV doc pm an cdv ct) ⟨us ++ rest, []⟩ = (newTuple rest >>= fun t => pure (ps.zip us ++ [(pv, t)])))
    (hbody : ∀ (cdv : Value) (A : Around) (outer : List Env) (s : Shared) (H : Hp) (vs : List V) (Q : VK) (E : XK), Room k (A.deeper (envOfC x scope s.heap.objs.size f cdv)) → sp vs H Q E →
      ∃ t, PSs (cxOf CX0 P w K mg base N x scope f cdv A outer s H E).nox body t ∧ t ⟨fun _ H' => Q .non H', Q, fun _ _ => False, fun _ _ => False⟩ (start N vs) H)
    (himp : ∀ vs H Q E, sp' vs H Q E → ∃ ws rest, vs = ws ++ rest ∧ ws.length = ps.length ∧ rest.length ≤ sizeLine ∧ ∀ p, H p = none → sp (ws ++ [V.ref p]) (upd H p (.tup rest)) Q E) : Fn P w K mg base (k + 1) x sp' := by
  have kp := F.kp
  obtain ⟨oc, od, dV, kV, doc, pm, an, cdv, ct, osl, rfl, lk, hcd, hD, _⟩ := F.ex
  rcases hD with ⟨_, rfl⟩ | ⟨e, _⟩
  · have R := StX.fn_star (P := P) (w := w) (mg := mg) (base := base) (sp := sp) lk hcd S StX.cxUp_none (hb kV doc pm an cdv ct) (fun A outer s H vs Q E hr h => let ⟨t, h1, h2⟩ := hbody cdv A outer s H vs Q E hr h; ⟨t, h1.nox, h2⟩)
    exact ⟨f, hm, kp, R.imp himp⟩
  · exact absurd rfl e
end
end Yk

set_option maxHeartbeats 1000000
/-! Calls by name: two parameters, told in the other order. -/
namespace Yk
open PySem PySem.Spec PyProof.Rows L2
def sw2 {α : Type} (us ws : List α) : List α := match us, ws with
  | [], [a, b] => [b, a]
  | _, _ => []
theorem sw2_rel {vs : List V} {us : List Value} {zs : List V} {ws : List Value} (h1 : Vals vs us) (h2 : Vals zs ws) : Vals (sw2 vs zs) (sw2 us ws) := by
  cases h1 with
  | cons a b => exact .nil
  | nil =>
    cases h2 with
    | nil => exact .nil
    | cons a h2 =>
      cases h2 with
      | nil => exact .nil
      | cons b h2 =>
        cases h2 with
        | nil => exact .cons b (.cons a .nil)
        | cons c h2 => exact .nil
section
variable (P : Program) (w : World) (K : PySem.W.Frag) (mg : Str → Option Value) (base : Heap)
structure FnS (k : Nat) (x : Str) (ks : List Str) (sp : Sp) : Prop where
  run : ∃ f fd ps, mg x = some (.ref f) ∧ PySem.W.keepIn K (.ref f) = true ∧ FnOk P w K mg base CX0 k f fd ps sp ∧ KBinds K fd ps ks sw2 sw2
end
section
variable {P : Program} {w : World} {K : PySem.W.Frag} {mg : Str → Option Value} {base : Heap} {f : Addr} {fd : FuncData}
theorem ok_def {x : Str} {params : Arguments} {body : List Stmt} {scope : Scope} {N ps : List Str} {k : Nat} {sp : Sp}
    (F : FunD K x x params body scope [] [] f fd) (S : FnScope N ps scope) (len : ∀ vs H Q E, sp vs H Q E → vs.length = ps.length)
    (hbody : ∀ (cdv : Value) (A : Around) (outer : List Env) (s : Shared) (H : Hp) (vs : List V) (Q : VK) (E : XK), Room k (A.deeper (envOfC x scope s.heap.objs.size f cdv)) → sp vs H Q E →
      ∃ t, PSs (cxOf CX0 P w K mg base N x scope f cdv A outer s H E).nox body t ∧ t ⟨fun _ H' => Q .non H', Q, fun _ _ => False, fun _ _ => False⟩ (start N vs) H) : FnOk P w K mg base CX0 (k + 1) f fd ps sp :=
  F.ok S len fun cdv A outer s H vs Q E hr h => by
    obtain ⟨t, h1, h2⟩ := hbody cdv A outer s H vs Q E hr h
    exact ⟨t, h1.nox, h2⟩
theorem fn_none {x : Str} {params : Arguments} {body : List Stmt} {scope : Scope} (F : FunD K x x params body scope [] [] f fd) {k : Nat} (hm : mg x = some (.ref f)) : Fn P w K mg base k x (fun _ _ _ _ => False) :=
  ⟨f, hm, F.kp, fun _ _ _ _ _ _ _ _ _ _ _ h => h.elim⟩
theorem fn_of_ok {x : Str} {params : Arguments} {body : List Stmt} {scope : Scope} {ps : List Str} {k : Nat} {sp : Sp}
    (F : FunD K x x params body scope [] [] f fd) (hm : mg x = some (.ref f)) (G : FnOk P w K mg base CX0 k f fd ps sp)
    (hb : ∀ (kV doc pm : Value) (an : Option Addr) (cdv ct : Value) (us : List Value), us.length = ps.length → bindArgs (PySem.W.fnOf x x params body scope .none kV doc pm an cdv ct) ⟨us, []⟩ = pure (ps.zip us)) : Fn P w K mg base k x sp := by
  have b := F.bindsN hb
  have R := G.raw b .nil
  refine ⟨f, hm, F.kp, R.imp fun vs H Q E h => ?_⟩
  rw [List.append_nil]
  exact h
theorem fs_of_ok {x p1 p2 : Str} {params : Arguments} {body : List Stmt} {scope : Scope} {k : Nat} {sp : Sp}
    (F : FunD K x x params body scope [] [] f fd) (hm : mg x = some (.ref f)) (G : FnOk P w K mg base CX0 k f fd [p1, p2] sp)
    (hb : ∀ (kV doc pm : Value) (an : Option Addr) (cdv ct : Value) (a b : Value), bindArgs (PySem.W.fnOf x x params body scope .none kV doc pm an cdv ct) ⟨[], [(p2, a), (p1, b)]⟩ = pure [(p1, b), (p2, a)]) : FnS P w K mg base k x [p2, p1] sp := by
  refine ⟨f, fd, [p1, p2], hm, F.kp, G, ⟨fun s us ws hK hl => ?_, sw2_rel⟩⟩
  obtain ⟨oc, od, dV, kV, doc, pm, an, cdv, ct, osl, rfl, lk, hcd, hD, _⟩ := F.ex
  rcases hD with ⟨_, rfl⟩ | ⟨e, _⟩
  · match us, ws, hl with
    | [], [a, b], _ => exact .of_eq (hb kV doc pm an cdv ct a b)
    | [], [], h => cases h
    | [], [_], h => cases h
    | [], _ :: _ :: _ :: _, h => cases h
    | _ :: _, _, h => cases h
  · exact absurd rfl e
end
section
variable {X : Cx} {k : Nat} {sp : Sp} {x : Str} {p pos : Pos} {ks : List Str} {kws : List Keyword} {tk : TA}
def tRS (sp : Sp) (tk : TA) : TE := fun σ H Q => tk σ H fun zs H1 => ∃ a b, zs = [a, b] ∧ sp [b, a] H1 Q E0
theorem r_RS {σ : L2.St} {H : Hp} {Q : VK} (h : tk σ H fun zs H1 => ∃ a b, zs = [a, b] ∧ sp [b, a] H1 Q E0) : tRS sp tk σ H Q := h
theorem pe_fnS (F : FnS X.prog X.w X.K X.mg X.base k x ks sp) (hr : Room k X.A) (hkw : PK X kws tk) (hg : Gl X x := by rfl) (hdb : (x == ("__debug__" : Str)) = false := by decide)
    (hx : Passes CX0 X E0 := by exact pass0)
    (hall : (backToKw pos (keywordEach kws X.env)).all (·.1.isSome) = true := by rfl) (hks : (backToKw pos (keywordEach kws X.env)).filterMap (·.1) = ks := by rfl)
    (hpl : ((backTo pos (starEach [] X.env)).any (·.1) || (backToKw pos (keywordEach kws X.env)).any (·.1.isNone)) = false := by rfl) :
    PE X (.Call (.Name x p) [] kws pos) (tRS sp tk) := by
  obtain ⟨f, fd, ps, hm, hk, F, hb⟩ := F.run
  refine ⟨fun pins s σ H Q I h => ?_⟩
  refine wpAny_Call_Name_kw (ld_glob I hg hm ?_ hdb)
  refine PySem.W.callWith_KW0 (h₀ := X.base) I.ok.mod.kin hk hall ?_ hpl
  refine thn (hkw.run pos pins s σ H _ I h) fun ws s2 ⟨zs, H2, I2, rz, a, b, ez, q2⟩ => ⟨I2.kIn, ?_⟩
  rw [hks]
  subst ez
  exact run_fnk (us := []) (vs := []) (g := sw2) (gV := sw2) F hr hb hx I2 .nil rz q2
end

/-! stars, and what is a list or a tuple -/
section
variable {X : Cx} {k : Nat} {sp : Sp} {x : Str} {p sp_ pos : Pos} {e : Expr} {es : List Expr} {te : TE} {t : TA}
def tR1 (K : PySem.W.Frag) (sp : Sp) (te : TE) : TE := fun σ H Q => te σ H fun y H1 => ∃ a xs, y = V.ref a ∧ (SqT K H1 a xs ∨ SqL K H1 a xs) ∧ sp xs H1 Q E0
theorem r_R1 {K : PySem.W.Frag} {σ : L2.St} {H : Hp} {Q : VK} (h : te σ H fun y H1 => ∃ a xs, y = V.ref a ∧ (SqT K H1 a xs ∨ SqL K H1 a xs) ∧ sp xs H1 Q E0) : tR1 K sp te σ H Q := h
theorem r_star {K : PySem.W.Frag} {σ : L2.St} {H : Hp} {R : List V → Hp → Prop} (h : te σ H fun x H1 => ∃ p xs, x = V.ref p ∧ (SqT K H1 p xs ∨ SqL K H1 p xs) ∧ t σ H1 fun ys H2 => R (xs ++ ys) H2) : StX.tStar K te t σ H R := h
theorem pe_fnS1 (F : Fn X.prog X.w X.K X.mg X.base k x sp) (hr : Room k X.A) (he : PE X e te) (hg : Gl X x := by rfl) (hdb : (x == ("__debug__" : Str)) = false := by decide) (hx : Passes CX0 X E0 := by exact pass0)
    (hst : starEach [.Starred e sp_] X.env = [(true, eval e X.env)] := by rfl) : PE X (.Call (.Name x p) [.Starred e sp_] [] pos) (tR1 X.K sp te) := by
  obtain ⟨f, hm, hk, F⟩ := F.run
  exact StX.pe_callS1 F hr hk hg hm hx he hdb hst
theorem pe_fnS2 (F : Fn X.prog X.w X.K X.mg X.base k x sp) (hr : Room k X.A) (ha : PA X (e :: es) t) (hg : Gl X x := by rfl) (hdb : (x == ("__debug__" : Str)) = false := by decide) (hx : Passes CX0 X E0 := by exact pass0)
    (he : starEach (e :: es) X.env = (false, eval e X.env) :: starEach es X.env := by rfl) (hst : (backTo pos (starEach es X.env)).any (·.1) = true := by rfl) : PE X (.Call (.Name x p) (e :: es) [] pos) (tR sp t) := by
  obtain ⟨f, hm, hk, F⟩ := F.run
  exact StX.pe_callS2 F hr hk hg hm hx ha hdb he hst
def iSeq (K : PySem.W.Frag) (tl : TE) : TI := fun σ H R => iList K tl σ H R ∨ iTup K tl σ H R
theorem pi_seq {tg l : Expr} {tl : TE} (hl : PE X l tl) : PI X tg l (iSeq X.K tl) :=
  ⟨fun pins s σ H R I h => h.elim (fun h => (pi_list hl).run pins s σ H R I h) (fun h => (pi_tup hl).run pins s σ H R I h)⟩
end
section
variable {K : PySem.W.Frag} {nx : L2.St → Hp → Prop} {rt : VK} {bk ct : L2.St → Hp → Prop} {σ : L2.St} {H : Hp} {Q : VK} {g : TG} {tt : TT} {te : TE} {t : TS} {vs : List Nat}
/-- carried on: what is a list or a tuple at a -/
def Kp (K : PySem.W.Frag) (a : Addr) (xs : List V) (H H2 : Hp) : Prop := (SqL K H a xs → SqL K H2 a xs) ∧ (SqT K H a xs → SqT K H2 a xs)
theorem kp0 {a : Addr} {xs : List V} {H2 : Hp} (e : Ext [] H H2) : Kp K a xs H H2 := ⟨lst0 e, tup0 e⟩
theorem Kp.trans {a : Addr} {xs : List V} {H1 H2 : Hp} (h : Kp K a xs H H1) (g : Kp K a xs H1 H2) : Kp K a xs H H2 := ⟨fun z => g.1 (h.1 z), fun z => g.2 (h.2 z)⟩
abbrev SqQ (K : PySem.W.Frag) (H : Hp) (a : Addr) (xs : List V) : Prop := SqL K H a xs ∨ SqT K H a xs
theorem Kp.q {a : Addr} {xs : List V} {H2 : Hp} (h : Kp K a xs H H2) (z : SqQ K H a xs) : SqQ K H2 a xs := z.elim (fun z => .inl (h.1 z)) fun z => .inr (h.2 z)
theorem sqq0 {a : Addr} {xs : List V} {H2 : Hp} (e : Ext [] H H2) (h : SqQ K H a xs) : SqQ K H2 a xs := (kp0 e).q h
theorem r_lcQ {i : Nat} {a : Addr} {xs : List V} {Qd : Addr → Hp → Prop} {H0 : Hp} (h1 : σ[i]? = some (some (.ref a))) (h2 : SqQ K H0 a xs) (hk : Kp K a xs H0 H) (h : ∀ D, H D = none → ∃ Pv : Nat → Hp → Prop, Pv 0 (upd H D (.lst [])) ∧ (∀ j H2, Pv j H2 → Kp K a xs H0 H2) ∧
    (∀ j x H, xs[j]? = some x → Pv j H → g x (wipe σ vs) H fun σ2 H2 => wipe σ2 vs = wipe σ vs ∧ tt σ2 H2 fun b H3 =>
      if b = true then te σ2 H3 fun y H4 => ∃ acc, H4 D = some (.lst acc) ∧ acc.length < sizeLine ∧ Pv (j + 1) (upd H4 D (.lst (acc ++ [y]))) else Pv (j + 1) H3) ∧ ∀ H, Pv xs.length H → Qd D H) :
    iSeq K (tVar i) σ H fun J H1 => ∀ D, H1 D = none → ∃ W : Nat → Nat → Hp → Prop, (∃ m, W 0 m (upd H1 D (.lst []))) ∧ ∀ i m H, W i m H →
      (J.stop i H ∧ Qd D H) ∨ (J.go i H ∧ ∃ Nx : Hp → Prop, (∀ H', Nx H' → ∃ m', m' < m ∧ W (i + 1) m' H') ∧ ∀ x H', J.yld i H x H' → g x (wipe σ vs) H' fun σ2 H2 => wipe σ2 vs = wipe σ vs ∧ tt σ2 H2 fun b H3 =>
        if b = true then te σ2 H3 fun y H4 => ∃ acc, H4 D = some (.lst acc) ∧ acc.length < sizeLine ∧ Nx (upd H4 D (.lst (acc ++ [y]))) else Nx H3) := by
  rcases h2 with h2 | h2
  · refine Or.inl ⟨_, h1, a, rfl, ⟨xs, hk.1 h2⟩, fun D hD => ?_⟩
    obtain ⟨Pv, p0, pk, ps, pd⟩ := h D hD
    exact lc_list (Qd := Qd D) Pv p0 (fun j H2 _ p => (pk j H2 p).1 h2) ps pd
  · refine Or.inr ⟨_, h1, a, rfl, ⟨xs, hk.2 h2⟩, fun D hD => ?_⟩
    obtain ⟨Pv, p0, pk, ps, pd⟩ := h D hD
    exact lc_tup (Qd := Qd D) Pv p0 (fun j H2 _ p => (pk j H2 p).2 h2) ps pd
theorem r_forQ {i : Nat} {a : Addr} {xs : List V} {H0 : Hp} (h1 : σ[i]? = some (some (.ref a))) (h2 : SqQ K H0 a xs) (hk : Kp K a xs H0 H) (Pv : Nat → L2.St → Hp → Prop) (h0 : Pv 0 σ H) (hl : ∀ i σ H2, i ≤ xs.length → Pv i σ H2 → Kp K a xs H0 H2)
    (hs : ∀ i x σ H, xs[i]? = some x → Pv i σ H → g x σ H fun σ2 H2 => t ⟨Pv (i + 1), rt, nx, Pv (i + 1)⟩ σ2 H2) (hd : ∀ σ H, Pv xs.length σ H → nx σ H) : tFor (iSeq K (tVar i)) g t ⟨nx, rt, bk, ct⟩ σ H := by
  rcases h2 with h2 | h2
  · exact Or.inl ⟨_, h1, a, rfl, ⟨xs, hk.1 h2⟩, for_list (D := ⟨nx, rt, nx, nx⟩) Pv h0 (fun i σ H2 z p => (hl i σ H2 z p).1 h2) hs hd⟩
  · exact Or.inr ⟨_, h1, a, rfl, ⟨xs, hk.2 h2⟩, for_tup (D := ⟨nx, rt, nx, nx⟩) Pv h0 (fun i σ H2 z p => (hl i σ H2 z p).2 h2) hs hd⟩
end
/-! rows that go together -/
section
variable {α β : Type}
def Rel (R : V → α → Prop) (xs : List V) (rs : List α) : Prop := xs.length = rs.length ∧ ∀ (i : Nat) (v : V) (r : α), xs[i]? = some v → rs[i]? = some r → R v r
variable {R R' : V → α → Prop} {xs ys : List V} {rs ts : List α}
theorem Rel.nil : Rel R [] [] := ⟨rfl, fun i v q h => by simp at h⟩
theorem Rel.cons {v : V} {r : α} (h : R v r) (g : Rel R xs rs) : Rel R (v :: xs) (r :: rs) := by
  refine ⟨by simp [g.1], fun i w u a b => ?_⟩
  cases i with
  | zero =>
    simp at a b
    subst a b
    exact h
  | succ i =>
    simp at a b
    exact g.2 i w u a b
theorem Rel.imp (h : Rel R xs rs) (f : ∀ v r, R v r → R' v r) : Rel R' xs rs := ⟨h.1, fun i v r a b => f v r (h.2 i v r a b)⟩
theorem Rel.impM (h : Rel R xs rs) (f : ∀ v r, r ∈ rs → R v r → R' v r) : Rel R' xs rs := ⟨h.1, fun i v r a b => f v r (List.mem_of_getElem? b) (h.2 i v r a b)⟩
theorem Rel.at_ (h : Rel R xs rs) {i : Nat} {v : V} (hv : xs[i]? = some v) : ∃ r, rs[i]? = some r ∧ R v r := by
  have hi : i < rs.length := by rw [← h.1]; exact (List.getElem?_eq_some_iff.mp hv).1
  exact ⟨rs[i], List.getElem?_eq_getElem hi, h.2 i v _ hv (List.getElem?_eq_getElem hi)⟩
theorem Rel.app (h : Rel R xs rs) (g : Rel R ys ts) : Rel R (xs ++ ys) (rs ++ ts) := by
  refine ⟨by rw [List.length_append, List.length_append, h.1, g.1], fun j v q a b => ?_⟩
  by_cases hj : j < xs.length
  · rw [List.getElem?_append_left hj] at a
    rw [List.getElem?_append_left (by rw [← h.1]; exact hj)] at b
    exact h.2 j v q a b
  · rw [List.getElem?_append_right (by omega)] at a
    rw [List.getElem?_append_right (by rw [← h.1]; omega), ← h.1] at b
    exact g.2 _ v q a b
theorem Rel.hd {v : V} {r : α} (h : Rel R (v :: xs) (r :: rs)) : R v r := h.2 0 v r rfl rfl
theorem Rel.tl {v : V} {r : α} (h : Rel R (v :: xs) (r :: rs)) : Rel R xs rs := ⟨by simpa using h.1, fun i w u a b => h.2 (i + 1) w u (by simpa using a) (by simpa using b)⟩
theorem Rel.cases {v : V} (h : Rel R (v :: xs) rs) : ∃ r t, rs = r :: t ∧ R v r ∧ Rel R xs t := by
  cases rs with
  | nil => exact absurd h.1 (by simp)
  | cons r t => exact ⟨r, t, rfl, h.hd, h.tl⟩
theorem Rel.take (h : Rel R xs rs) (n : Nat) : Rel R (xs.take n) (rs.take n) := by
  refine ⟨by rw [List.length_take, List.length_take, h.1], fun j v q a b => ?_⟩
  rw [List.getElem?_take] at a b
  split at a
  · rename_i hj
    rw [if_pos hj] at b
    exact h.2 j v q a b
  · cases a
theorem Rel.drop (h : Rel R xs rs) (n : Nat) : Rel R (xs.drop n) (rs.drop n) := by
  refine ⟨by rw [List.length_drop, List.length_drop, h.1], fun j v q a b => ?_⟩
  rw [List.getElem?_drop] at a b
  exact h.2 _ v q a b
theorem Rel.perm (p : ys.Perm xs) : ∀ {rs : List α}, Rel R xs rs → ∃ ts, Rel R ys ts ∧ ts.Perm rs := by
  induction p with
  | nil => exact fun {rs} h => ⟨rs, h, List.Perm.refl _⟩
  | cons x _ ih =>
    intro rs h
    obtain ⟨r, t, rfl, a, b⟩ := h.cases
    obtain ⟨ts, c, d⟩ := ih b
    exact ⟨r :: ts, .cons a c, d.cons r⟩
  | swap x y l =>
    intro rs h
    obtain ⟨r1, t, rfl, a, b⟩ := h.cases
    obtain ⟨r2, t, rfl, c, d⟩ := b.cases
    exact ⟨r2 :: r1 :: t, .cons c (.cons a d), List.Perm.swap r1 r2 t⟩
  | trans _ _ ih1 ih2 =>
    intro rs h
    obtain ⟨ts, a, b⟩ := ih2 h
    obtain ⟨us, c, d⟩ := ih1 a
    exact ⟨us, c, d.trans b⟩
theorem Rel.snoc {v : V} {r : α} (h : Rel R xs rs) (g : R v r) : Rel R (xs ++ [v]) (rs ++ [r]) := h.app (.cons g .nil)
end
/-! steps -/
section
variable {K : PySem.W.Frag} {nx : L2.St → Hp → Prop} {rt : VK} {bk ct : L2.St → Hp → Prop} {σ : L2.St} {H : Hp} {Q : VK} {te : TE} {x y : V}
theorem r_app {l : Addr} {xs : List V} (h1 : H l = some (.lst xs)) (h2 : xs.length ≤ 4000) (h : Q .non (upd H l (.lst (xs ++ [y])))) : rAppend (.ref l) [y] H Q := ⟨l, xs, y, rfl, rfl, h1, Nat.lt_of_le_of_lt h2 (by decide), h⟩
theorem ty_lst {l : Addr} {xs : List V} (h : H l = some (.lst xs)) : tyV K "list" (.ref l) H := .inl ⟨rfl, xs, .inl (.inl h)⟩
theorem r_aug {i : Nat} {ti : TIp} (h1 : σ[i]? = some (some x)) (h : te σ H fun y H1 => ti x y H1 fun z H2 => nx (σ.set i (some z)) H2) : tAug i te ti ⟨nx, rt, bk, ct⟩ σ H := ⟨x, h1, h⟩
theorem r_ipI {f : Int → Int → Int} {i j : Int} {R : V → Hp → Prop} (h : R (.int (f i j)) H) : ipI f (.int i) (.int j) H R := ⟨i, j, rfl, rfl, h⟩
theorem cut_drop {xs : List V} {n : Nat} (h : n ≤ xs.length) : cutV xs (some (n : Int)) none = xs.drop n := by
  have e : HT.sIx xs.length 0 (some (n : Int)) = n := by rw [HT.sIx_nat]; exact Nat.min_eq_left h
  have e2 : HT.sIx xs.length xs.length none = xs.length := rfl
  unfold cutV
  rw [e, e2]
  exact List.take_of_length_le (by simp)
theorem cut_take {xs : List V} {n : Nat} (h : n ≤ xs.length) : cutV xs none (some (n : Int)) = xs.take n := by
  have e : HT.sIx xs.length xs.length (some (n : Int)) = n := by rw [HT.sIx_nat]; exact Nat.min_eq_left h
  have e2 : HT.sIx xs.length 0 none = 0 := rfl
  unfold cutV
  rw [e, e2]
  simp
end
section
theorem ixN_at {n j : Nat} {i : Int} (h : i = (j : Int)) (hj : j < n) : ixN n i = some j := by
  unfold ixN
  rw [if_pos (by omega), if_pos (by omega), h, Int.toNat_natCast]
theorem at0 {v : V} {xs : List V} : atI (v :: xs) 0 = some v := atI_nat (j := 0) rfl
theorem at1 {v w : V} {xs : List V} : atI (v :: w :: xs) 1 = some w := atI_nat (j := 1) rfl
theorem at_n {v : V} {xs : List V} {n : Nat} {i : Int} (hi : i = (n : Int)) (h : xs[n]? = some v) : atI xs i = some v := by rw [hi]; exact atI_nat h
end
theorem r_ndec {p : Prop} [Decidable p] {A B : Prop} (h1 : ¬ p → A) (h2 : p → B) : if (!decide p) = true then A else B := by
  by_cases hp : p
  · rw [decide_eq_true hp, if_neg (by decide)]; exact h2 hp
  · rw [decide_eq_false hp, if_pos (by decide)]; exact h1 hp
def rTs (K : PySem.W.Frag) : List V → Hp → VK → Prop := fun xs H Q => ∃ p ys, xs = [.ref p] ∧ ((SqL K H p ys ∧ ∀ l, H l = none → Q (.ref l) (upd H l (.tup ys))) ∨ (SqT K H p ys ∧ Q (.ref p) H))
theorem cr_tuple {X : Cx} : CallR X (.type "tuple") (rTs X.K) := call_tuple_of
theorem r_tupleL {K : PySem.W.Frag} {H : Hp} {Q : VK} {p : Addr} {ys : List V} (h : SqL K H p ys) (k : ∀ l, H l = none → Q (.ref l) (upd H l (.tup ys))) : rTs K [.ref p] H Q := ⟨p, ys, rfl, .inl ⟨h, k⟩⟩
end Yk

set_option maxHeartbeats 1000000
/-! Calls by place and by name, in any order; data that stands clear of some addresses. -/
namespace Yk
open PySem PySem.Spec PyProof.Rows L2
/-- the parameters' values: the i-th is the idx[i]-th of all that are passed -/
def arr {α : Type} (m n : Nat) (idx : List Nat) (us ws : List α) : List α := if us.length = m ∧ ws.length = n then idx.filterMap fun i => (us ++ ws)[i]? else []
theorem Vals.app {vs zs : List V} {us ws : List Value} (h : Vals vs us) (g : Vals zs ws) : Vals (vs ++ zs) (us ++ ws) := by
  induction h with
  | nil => exact g
  | cons a _ ih => exact .cons a ih
theorem Vals.get {vs : List V} {us : List Value} (h : Vals vs us) : ∀ i : Nat, (vs[i]? = none ∧ us[i]? = none) ∨ ∃ v u, vs[i]? = some v ∧ us[i]? = some u ∧ RelV v u := by
  induction h with
  | nil => intro i; exact .inl ⟨rfl, rfl⟩
  | cons a _ ih =>
    intro i
    cases i with
    | zero => exact .inr ⟨_, _, rfl, rfl, a⟩
    | succ i => exact ih i
theorem Vals.pick {vs : List V} {us : List Value} (h : Vals vs us) : ∀ idx : List Nat, Vals (idx.filterMap fun i => vs[i]?) (idx.filterMap fun i => us[i]?)
  | [] => .nil
  | i :: idx => by
    rcases Vals.get h i with ⟨a, b⟩ | ⟨v, u, a, b, r⟩
    · rw [List.filterMap_cons_none a, List.filterMap_cons_none b]
      exact Vals.pick h idx
    · rw [List.filterMap_cons_some a, List.filterMap_cons_some b]
      exact .cons r (Vals.pick h idx)
theorem arr_rel {m n : Nat} {idx : List Nat} {vs : List V} {us : List Value} {zs : List V} {ws : List Value} (h1 : Vals vs us) (h2 : Vals zs ws) : Vals (arr m n idx vs zs) (arr m n idx us ws) := by
  unfold arr
  rw [h1.length, h2.length]
  split
  · exact Vals.pick (Vals.app h1 h2) idx
  · exact .nil
section
variable (P : Program) (w : World) (K : PySem.W.Frag) (mg : Str → Option Value) (base : Heap)
structure FnX (k : Nat) (x : Str) (m : Nat) (ks : List Str) (idx : List Nat) (sp : Sp) : Prop where
  run : ∃ f fd ps, mg x = some (.ref f) ∧ PySem.W.keepIn K (.ref f) = true ∧ FnOk P w K mg base CX0 k f fd ps sp ∧ KBinds K fd ps ks (arr m ks.length idx) (arr m ks.length idx)
end
section
variable {P : Program} {w : World} {K : PySem.W.Frag} {mg : Str → Option Value} {base : Heap} {f : Addr} {fd : FuncData}
theorem fx_of_ok {x : Str} {params : Arguments} {body : List Stmt} {scope : Scope} {ps : List Str} {k : Nat} {sp : Sp} (m : Nat) (ks : List Str) (idx : List Nat)
    (F : FunD K x x params body scope [] [] f fd) (hm : mg x = some (.ref f)) (G : FnOk P w K mg base CX0 k f fd ps sp) (h0 : 0 < ps.length)
    (hb : ∀ (kV doc pm : Value) (an : Option Addr) (cdv ct : Value) (us ws : List Value), us.length = m → ws.length = ks.length → bindArgs (PySem.W.fnOf x x params body scope .none kV doc pm an cdv ct) ⟨us, ks.zip ws⟩ = pure (ps.zip (arr m ks.length idx us ws))) : FnX P w K mg base k x m ks idx sp := by
  refine ⟨f, fd, ps, hm, F.kp, G, ⟨fun s us ws hK hl => ?_, arr_rel⟩⟩
  obtain ⟨oc, od, dV, kV, doc, pm, an, cdv, ct, osl, rfl, lk, hcd, hD, _⟩ := F.ex
  rcases hD with ⟨_, rfl⟩ | ⟨e, _⟩
  · by_cases hc : us.length = m ∧ ws.length = ks.length
    · exact .of_eq (hb kV doc pm an cdv ct us ws hc.1 hc.2)
    · have e : arr m ks.length idx us ws = [] := if_neg hc
      rw [e] at hl
      exact absurd hl (by show (0 : Nat) ≠ ps.length; omega)
  · exact absurd rfl e
end
section
variable {X : Cx} {k m : Nat} {sp : Sp} {x : Str} {p pos : Pos} {ks : List Str} {idx : List Nat} {kws : List Keyword} {e : Expr} {es : List Expr} {t tk : TA}
def tRX (m n : Nat) (idx : List Nat) (sp : Sp) (t tk : TA) : TE := fun σ H Q => t σ H fun vs H1 => tk σ H1 fun zs H2 => ∃ us, us = arr m n idx vs zs ∧ sp us H2 Q E0
theorem r_RX {n : Nat} {σ : L2.St} {H : Hp} {Q : VK} (h : t σ H fun vs H1 => tk σ H1 fun zs H2 => ∃ us, us = arr m n idx vs zs ∧ sp us H2 Q E0) : tRX m n idx sp t tk σ H Q := h
theorem pe_fnX (F : FnX X.prog X.w X.K X.mg X.base k x m ks idx sp) (hr : Room k X.A) (ha : PA X (e :: es) t) (hkw : PK X kws tk) (hg : Gl X x := by rfl) (hdb : (x == ("__debug__" : Str)) = false := by decide)
    (hx : Passes CX0 X E0 := by exact pass0)
    (hall : (backToKw pos (keywordEach kws X.env)).all (·.1.isSome) = true := by rfl) (hks : (backToKw pos (keywordEach kws X.env)).filterMap (·.1) = ks := by rfl)
    (he : starEach (e :: es) X.env = (false, eval e X.env) :: starEach es X.env := by rfl)
    (hpl : ((backTo pos (starEach (e :: es) X.env)).any (·.1) || (backToKw pos (keywordEach kws X.env)).any (·.1.isNone)) = false := by rfl) :
    PE X (.Call (.Name x p) (e :: es) kws pos) (tRX m ks.length idx sp t tk) := by
  obtain ⟨f, fd, ps, hm, hk, F, hb⟩ := F.run
  refine ⟨fun pins s σ H Q I h => ?_⟩
  refine wpAny_Call_Name_kw (ld_glob I hg hm ?_ hdb)
  refine PySem.W.callWith_KW (h₀ := X.base) I.ok.mod.kin hk hall (thn (ha.run pos pins s σ H _ I h) fun us s1 ⟨vs, H1, I1, r, q⟩ => ?_) hpl he
  refine thn (hkw.run pos pins s1 σ H1 _ I1 q) fun ws s2 ⟨zs, H2, I2, rz, us', e, q2⟩ => ⟨I2.kIn, ?_⟩
  rw [hks]
  subst e
  exact run_fnk F hr hb hx I2 r rz q2
theorem pe_fnX0 (F : FnX X.prog X.w X.K X.mg X.base k x m ks idx sp) (hr : Room k X.A) (hkw : PK X kws tk) (hg : Gl X x := by rfl) (hdb : (x == ("__debug__" : Str)) = false := by decide)
    (hx : Passes CX0 X E0 := by exact pass0)
    (hall : (backToKw pos (keywordEach kws X.env)).all (·.1.isSome) = true := by rfl) (hks : (backToKw pos (keywordEach kws X.env)).filterMap (·.1) = ks := by rfl)
    (hpl : ((backTo pos (starEach [] X.env)).any (·.1) || (backToKw pos (keywordEach kws X.env)).any (·.1.isNone)) = false := by rfl) :
    PE X (.Call (.Name x p) [] kws pos) (tRX m ks.length idx sp tNil tk) := by
  obtain ⟨f, fd, ps, hm, hk, F, hb⟩ := F.run
  refine ⟨fun pins s σ H Q I h => ?_⟩
  refine wpAny_Call_Name_kw (ld_glob I hg hm ?_ hdb)
  refine PySem.W.callWith_KW0 (h₀ := X.base) I.ok.mod.kin hk hall ?_ hpl
  refine thn (hkw.run pos pins s σ H _ I h) fun ws s2 ⟨zs, H2, I2, rz, us, e, q2⟩ => ⟨I2.kIn, ?_⟩
  rw [hks]
  subst e
  exact run_fnk (us := []) (vs := []) F hr hb hx I2 .nil rz q2
end
/-! data clear of S -/
mutual
inductive Dq (K : PySem.W.Frag) (S : List Addr) (H : Hp) : V → PyData → Prop
  | non : Dq K S H .non .none
  | bl (b : Bool) : Dq K S H (.bl b) (.bool b)
  | int (i : Int) : Dq K S H (.int i) (.int i)
  | str (x : Str) : Dq K S H (.str x) (.str x)
  | lst {a : Addr} {xs : List V} {ds : List PyData} : a ∉ S → SqL K H a xs → DqAll K S H xs ds → Dq K S H (.ref a) (.list ds)
  | tup {a : Addr} {xs : List V} {ds : List PyData} : SqT K H a xs → DqAll K S H xs ds → Dq K S H (.ref a) (.tuple ds)
inductive DqAll (K : PySem.W.Frag) (S : List Addr) (H : Hp) : List V → List PyData → Prop
  | nil : DqAll K S H [] []
  | cons {v : V} {vs : List V} {d : PyData} {ds : List PyData} : Dq K S H v d → DqAll K S H vs ds → DqAll K S H (v :: vs) (d :: ds)
end
section
variable {K : PySem.W.Frag} {S T : List Addr} {H H1 : Hp}
mutual
theorem Dq.x (e : Ext T H H1) (hT : ∀ x ∈ T, x ∈ S) (hs : ∀ b ∈ T, ∃ l, H b = some (.lst l)) : ∀ {v : V} {d : PyData}, Dq K S H v d → Dq K S H1 v d
  | _, _, .non => .non
  | _, _, .bl b => .bl b
  | _, _, .int i => .int i
  | _, _, .str z => .str z
  | _, _, .lst na h g => .lst na (lstX e h fun q => na (hT _ q)) (DqAll.x e hT hs g)
  | _, _, .tup h g => .tup (tupX e h hs) (DqAll.x e hT hs g)
theorem DqAll.x (e : Ext T H H1) (hT : ∀ x ∈ T, x ∈ S) (hs : ∀ b ∈ T, ∃ l, H b = some (.lst l)) : ∀ {vs : List V} {ds : List PyData}, DqAll K S H vs ds → DqAll K S H1 vs ds
  | _, _, .nil => .nil
  | _, _, .cons h g => .cons (Dq.x e hT hs h) (DqAll.x e hT hs g)
end
mutual
theorem Dq.dp : ∀ {v : V} {d : PyData}, Dq K S H v d → Dp K H v d
  | _, _, .non => .non
  | _, _, .bl b => .bl b
  | _, _, .int i => .int i
  | _, _, .str z => .str z
  | _, _, .lst _ h g => .lst h (DqAll.dp g)
  | _, _, .tup h g => .tup h (DqAll.dp g)
theorem DqAll.dp : ∀ {vs : List V} {ds : List PyData}, DqAll K S H vs ds → DpAll K H vs ds
  | _, _, .nil => .nil
  | _, _, .cons h g => .cons (Dq.dp h) (DqAll.dp g)
end
theorem Dq.x0 (e : Ext [] H H1) {v : V} {d : PyData} (h : Dq K S H v d) : Dq K S H1 v d := h.x e (fun _ z => nomatch z) (fun _ z => nomatch z)
theorem DqAll.x0 (e : Ext [] H H1) {v : List V} {d : List PyData} (h : DqAll K S H v d) : DqAll K S H1 v d := h.x e (fun _ z => nomatch z) (fun _ z => nomatch z)
theorem DqAll.app : ∀ {vs ws : List V} {ds es : List PyData}, DqAll K S H vs ds → DqAll K S H ws es → DqAll K S H (vs ++ ws) (ds ++ es)
  | _, _, _, _, .nil, g => g
  | _, _, _, _, .cons h r, g => .cons h (DqAll.app r g)
theorem DqAll.get : ∀ {vs : List V} {ds : List PyData} {i : Nat} {v : V}, DqAll K S H vs ds → vs[i]? = some v → ∃ d, ds[i]? = some d ∧ Dq K S H v d
  | _, _, 0, _, .cons h _, e => by cases e; exact ⟨_, rfl, h⟩
  | _, _, i + 1, _, .cons _ r, e => DqAll.get (i := i) r e
  | _, _, 0, _, .nil, e => by cases e
  | _, _, _ + 1, _, .nil, e => by cases e
end
end Yk

/-! Rational numbers: what the program's reckoning in lowest terms is worth. -/
namespace Yk
/-- the sum in lowest terms, as the program reckons it -/
theorem add_low (a b : Rat) : (a + b).num = (a.num * ((b.den / Nat.gcd a.den b.den : Nat) : Int) + b.num * ((a.den / Nat.gcd a.den b.den : Nat) : Int)) / ((Nat.gcd (a.num * ((b.den / Nat.gcd a.den b.den : Nat) : Int) + b.num * ((a.den / Nat.gcd a.den b.den : Nat) : Int)).natAbs (Nat.gcd a.den b.den) : Nat) : Int)
    ∧ (a + b).den = a.den / Nat.gcd a.den b.den * (b.den / Nat.gcd (a.num * ((b.den / Nat.gcd a.den b.den : Nat) : Int) + b.num * ((a.den / Nat.gcd a.den b.den : Nat) : Int)).natAbs (Nat.gcd a.den b.den)) := by
  have e : a + b = Rat.add a b := rfl
  rw [e]
  unfold Rat.add
  dsimp only
  by_cases hg : Nat.gcd a.den b.den = 1
  · rw [dif_pos hg]
    simp [hg]
  · rw [dif_neg hg]
    have hmn : ∀ (num : Int) (den g : Nat) (h1 : (g : Int) ∣ num) (h2 : g ∣ den) (h3) (h4), (Rat.maybeNormalize num den g h1 h2 h3 h4).num = num / (g : Int) ∧ (Rat.maybeNormalize num den g h1 h2 h3 h4).den = den / g := by
      intro num den g h1 h2 h3 h4
      unfold Rat.maybeNormalize
      split
      · rename_i q
        subst q
        simp
      · exact ⟨by simp [Int.divExact], by simp [Nat.divExact]⟩
    obtain ⟨e1, e2⟩ := hmn _ _ _ _ _ _ _
    refine ⟨e1, ?_⟩
    rw [e2]
    have hd : Nat.gcd (a.num * ((b.den / Nat.gcd a.den b.den : Nat) : Int) + b.num * ((a.den / Nat.gcd a.den b.den : Nat) : Int)).natAbs (Nat.gcd a.den b.den) ∣ b.den := Nat.dvd_trans (Nat.gcd_dvd_right _ _) (Nat.gcd_dvd_right _ _)
    exact Nat.mul_div_assoc _ hd
theorem mul_low (a b : Rat) : (a * b).num = a.num / ((Nat.gcd a.num.natAbs b.den : Nat) : Int) * (b.num / ((Nat.gcd b.num.natAbs a.den : Nat) : Int)) ∧ (a * b).den = a.den / Nat.gcd b.num.natAbs a.den * (b.den / Nat.gcd a.num.natAbs b.den) := by
  have e : a * b = Rat.mul a b := rfl
  rw [e]
  unfold Rat.mul
  simp [Int.divExact, Nat.divExact]
/-- size: both numbers below 2 ^ n -/
def Sz (n : Nat) (q : Rat) : Prop := q.num.natAbs < 2 ^ n ∧ q.den < 2 ^ n
theorem Sz.mono {m n : Nat} {q : Rat} (h : Sz m q) (e : m ≤ n) : Sz n q := ⟨Nat.lt_of_lt_of_le h.1 (Nat.pow_le_pow_right (by decide) e), Nat.lt_of_lt_of_le h.2 (Nat.pow_le_pow_right (by decide) e)⟩
theorem sz_mk {n : Nat} {q : Rat} {a : Int} {b : Nat} (hb : 0 < b) (e : q = mkRat a b) (h1 : a.natAbs < 2 ^ n) (h2 : b < 2 ^ n) : Sz n q := by
  subst e
  constructor
  · rw [Rat.num_mkRat, if_neg (by omega)]
    have hd : ((Nat.gcd b a.natAbs : Nat) : Int) ∣ a := Int.natAbs_dvd_natAbs.mp (by simpa using Nat.gcd_dvd_right b a.natAbs)
    rw [Int.natAbs_ediv_of_dvd hd]
    refine Nat.lt_of_le_of_lt (Nat.div_le_self _ _) h1
  · rw [Rat.den_mkRat, if_neg (by omega)]
    exact Nat.lt_of_le_of_lt (Nat.div_le_self _ _) h2
theorem sz_add {m n : Nat} {a b : Rat} (ha : Sz m a) (hb : Sz n b) : Sz (m + n + 1) (a + b) := by
  have h1 : (a.num * (b.den : Int)).natAbs < 2 ^ (m + n) := by
    rw [Int.natAbs_mul, Nat.pow_add]
    exact Nat.mul_lt_mul'' ha.1 (by simpa using hb.2)
  have h2 : (b.num * (a.den : Int)).natAbs < 2 ^ (m + n) := by
    rw [Int.natAbs_mul, Nat.pow_add, Nat.mul_comm]
    exact Nat.mul_lt_mul'' (by simpa using ha.2) hb.1
  have h3 : 2 ^ (m + n + 1) = 2 ^ (m + n) + 2 ^ (m + n) := by rw [Nat.pow_succ]; omega
  refine sz_mk (a := a.num * b.den + b.num * a.den) (b := a.den * b.den) (Nat.mul_pos a.den_pos b.den_pos) ?_ ?_ ?_
  · rw [Rat.add_def, Rat.normalize_eq_mkRat]
  · have := Int.natAbs_add_le (a.num * (b.den : Int)) (b.num * (a.den : Int))
    omega
  · have h4 : a.den * b.den < 2 ^ m * 2 ^ n := Nat.mul_lt_mul'' ha.2 hb.2
    rw [← Nat.pow_add] at h4
    omega
theorem sz_mul {m n : Nat} {a b : Rat} (ha : Sz m a) (hb : Sz n b) : Sz (m + n) (a * b) := by
  refine sz_mk (a := a.num * b.num) (b := a.den * b.den) (Nat.mul_pos a.den_pos b.den_pos) ?_ ?_ ?_
  · rw [Rat.mul_def, Rat.normalize_eq_mkRat]
  · rw [Int.natAbs_mul, Nat.pow_add]
    exact Nat.mul_lt_mul'' ha.1 hb.1
  · rw [Nat.pow_add]
    exact Nat.mul_lt_mul'' ha.2 hb.2
theorem sz_neg {n : Nat} {a : Rat} (h : Sz n a) : Sz n (-a) := by
  refine ⟨?_, ?_⟩
  · rw [Rat.neg_num, Int.natAbs_neg]; exact h.1
  · exact h.2
theorem sz_inv {n : Nat} {a : Rat} (h : Sz n a) (h0 : 0 < a) : Sz n a⁻¹ := by
  have h1 : 0 < a.num := by
    have := (Rat.lt_iff 0 a).mp h0
    simpa using this
  refine ⟨?_, ?_⟩
  · rw [Rat.num_inv, Int.sign_eq_one_of_pos h1, Int.one_mul]
    simpa using h.2
  · rw [Rat.den_inv, if_neg (by omega)]
    exact h.1
theorem num_pos' {q : Rat} (h : 0 < q) : 0 < q.num := by
  have := (Rat.lt_iff 0 q).mp h
  simpa using this
theorem num_nn {q : Rat} (h : 0 ≤ q) : 0 ≤ q.num := Rat.num_nonneg.mpr h
theorem inv_parts {q : Rat} (h : 0 < q) : q⁻¹.num = (q.den : Int) ∧ (q⁻¹.den : Int) = q.num := by
  have h1 := num_pos' h
  refine ⟨?_, ?_⟩
  · rw [Rat.num_inv, Int.sign_eq_one_of_pos h1, Int.one_mul]
  · rw [Rat.den_inv, if_neg (by omega)]
    omega
/-- two numbers in lowest terms -/
theorem mk_parts (a b : Nat) (hb : 0 < b) : (mkRat (a : Int) b).num = ((a / Nat.gcd a b : Nat) : Int) ∧ (mkRat (a : Int) b).den = b / Nat.gcd a b := by
  rw [Rat.num_mkRat, Rat.den_mkRat, if_neg (by omega), if_neg (by omega)]
  simp [Nat.gcd_comm]
theorem mk_nn (a b : Nat) : 0 ≤ mkRat (a : Int) b := by
  rcases Nat.eq_zero_or_pos b with h | h
  · subst h; simp
  · have e := (mk_parts a b h).1
    have : 0 ≤ (mkRat (a : Int) b).num := by rw [e]; exact Int.natCast_nonneg _
    exact Rat.num_nonneg.mp this
end Yk
namespace Yk
theorem add_int (p q : Rat) : (p + q).num = (p.num * ((q.den : Int) / ((Nat.gcd p.den q.den : Nat) : Int)) + q.num * ((p.den : Int) / ((Nat.gcd p.den q.den : Nat) : Int))) / ((Nat.gcd (p.num * ((q.den : Int) / ((Nat.gcd p.den q.den : Nat) : Int)) + q.num * ((p.den : Int) / ((Nat.gcd p.den q.den : Nat) : Int))).natAbs (Nat.gcd p.den q.den) : Nat) : Int)
    ∧ ((p + q).den : Int) = (p.den : Int) / ((Nat.gcd p.den q.den : Nat) : Int) * ((q.den : Int) / ((Nat.gcd (p.num * ((q.den : Int) / ((Nat.gcd p.den q.den : Nat) : Int)) + q.num * ((p.den : Int) / ((Nat.gcd p.den q.den : Nat) : Int))).natAbs (Nat.gcd p.den q.den) : Nat) : Int)) := by
  obtain ⟨h1, h2⟩ := add_low p q
  constructor
  · rw [h1]
    simp only [Int.natCast_ediv]
  · rw [h2]
    simp only [Int.natCast_ediv, Int.natCast_mul]
theorem mul_int' (p q : Rat) : (p * q).num = p.num / ((Nat.gcd p.num.natAbs q.den : Nat) : Int) * (q.num / ((Nat.gcd q.num.natAbs p.den : Nat) : Int)) ∧ ((p * q).den : Int) = (p.den : Int) / ((Nat.gcd q.num.natAbs p.den : Nat) : Int) * ((q.den : Int) / ((Nat.gcd p.num.natAbs q.den : Nat) : Int)) := by
  obtain ⟨h1, h2⟩ := mul_low p q
  refine ⟨h1, ?_⟩
  rw [h2]
  simp only [Int.natCast_ediv, Int.natCast_mul]
theorem abs_div_le (a b : Int) (hb : 0 < b) : (a / b).natAbs ≤ a.natAbs := by
  have h1 := Int.natAbs_ediv_le_natAbs a b
  exact h1
end Yk
namespace Yk
def cmpQ' (p q : Rat) : Int := if p < q then -1 else if q < p then 1 else 0
theorem cmp_add (p q r : Rat) : cmpQ' (p + r) (q + r) = cmpQ' p q := by
  unfold cmpQ'
  have h1 : p + r < q + r ↔ p < q := Rat.add_lt_add_right
  have h2 : q + r < p + r ↔ q < p := Rat.add_lt_add_right
  simp only [h1, h2]
theorem cmp_more (p r : Rat) (hr : 0 ≤ r) : cmpQ' (p + r) p = if 0 < r then 1 else 0 := by
  unfold cmpQ'
  by_cases h : 0 < r
  · rw [if_neg (by grind), if_pos (by grind), if_pos h]
  · rw [if_neg (by grind), if_neg (by grind), if_neg h]
theorem cmp_mul (p q r : Rat) (hr : 0 ≤ r) : cmpQ' (p * r) (r * q) = if 0 < r then cmpQ' p q else 0 := by
  rw [Rat.mul_comm r q]
  unfold cmpQ'
  by_cases h : 0 < r
  · have h1 : p * r < q * r ↔ p < q := Rat.mul_lt_mul_right h
    have h2 : q * r < p * r ↔ q < p := Rat.mul_lt_mul_right h
    simp only [h1, h2, if_pos h]
  · have e : r = 0 := by grind
    subst e
    simp
theorem add_nn {a b : Rat} (h1 : 0 ≤ a) (h2 : 0 ≤ b) : 0 ≤ a + b := Rat.add_nonneg h1 h2
theorem mul_nn {a b : Rat} (h1 : 0 ≤ a) (h2 : 0 ≤ b) : 0 ≤ a * b := Rat.mul_nonneg h1 h2
theorem r_sub1 (p q : Rat) : p + q - q = p := by grind
theorem r_sub2 (p q r : Rat) : p + q + r - (r + q) = p := by grind
theorem r_sub3 (p : Rat) : p - p = 0 := by grind
theorem r_div1 {p q : Rat} (h : 0 < q) : p * q / q = p := by grind
theorem r_div2 {p q : Rat} (h : 0 < q) : p / q * q = p := by grind
theorem r_div3 {q : Rat} (h : 0 < q) : q / q = 1 := by grind
theorem r_dist (p q r : Rat) : p * q + p * r = p * (q + r) := by grind
theorem le1 {p q : Rat} (h : 0 ≤ p) : q ≤ p + q := by grind
theorem le2 {p q r : Rat} (h : 0 ≤ p) : r + q ≤ p + q + r := by grind
theorem num_pos_iff {r : Rat} (h : 0 ≤ r) : 0 < r.num ↔ 0 < r := by
  constructor
  · intro h1
    exact (Rat.lt_iff 0 r).mpr (by simpa using h1)
  · exact num_pos'
theorem sz_div {m n : Nat} {a b : Rat} (ha : Sz m a) (hb : Sz n b) (h : 0 < b) : Sz (m + n) (a / b) := by
  rw [Rat.div_def]
  exact sz_mul ha (sz_inv hb h)
end Yk

set_option maxHeartbeats 1000000
namespace Yk
open PySem PySem.Spec PyProof.Rows L2
def top (i : Nat) : Stmt := PySem.Challenge.pw_bandheld_k34_whole_disciplines.main.body.getD i (.Pass ⟨0, 0, 0, 0⟩)
structure Bt (mg : Str → Option Value) : Prop where
  int : mg "int" = none
  len : mg "len" = none
  list : mg "list" = none
  tuple : mg "tuple" = none
  str : mg "str" = none
  bool : mg "bool" = none
  max : mg "max" = none
  min : mg "min" = none
  all : mg "all" = none
  any : mg "any" = none
  sum : mg "sum" = none
  isinstance : mg "isinstance" = none
  zip : mg "zip" = none
  range : mg "range" = none
  divmod : mg "divmod" = none
structure Bg (mg : Str → Option Value) : Prop extends Bt mg where
  gcd : mg "gcd" = some (.builtin "math.gcd")
/-- an amount: its two numbers in a tuple -/
def Am (K : PySem.W.Frag) (H : Hp) (v : V) (q : Rat) : Prop := ∃ a, v = .ref a ∧ SqT K H a [.int q.num, .int (q.den : Int)]
theorem Am.x {S : List Addr} {K : PySem.W.Frag} {H H1 : Hp} {v : V} {q : Rat} (e : Ext S H H1) (h : Am K H v q) (hs : ∀ b ∈ S, ∃ l, H b = some (.lst l)) : Am K H1 v q := by
  obtain ⟨a, rfl, h⟩ := h
  exact ⟨a, rfl, tupX e h hs⟩
theorem Am.x0 {K : PySem.W.Frag} {H H1 : Hp} {v : V} {q : Rat} (e : Ext [] H H1) (h : Am K H v q) : Am K H1 v q := h.x e fun _ z => nomatch z
/-- what an amount's promise hands back -/
def RetAm (K : PySem.W.Frag) (H : Hp) (Q : VK) (q : Rat) : Prop := ∀ v H', Ext [] H H' → Am K H' v q → Q v H'
def spAdded (K : PySem.W.Frag) : Sp := fun vs H Q _ => ∃ v1 v2 p q, vs = [v1, v2] ∧ Am K H v1 p ∧ Am K H v2 q ∧ Sz 4000 p ∧ Sz 4000 q ∧ RetAm K H Q (p + q)
end Yk
namespace Yk
open PySem PySem.Spec PyProof.Rows L2
theorem cdiv {n : Nat} {i : Int} {b : Nat} (h0 : 0 < b) (hb : b < 2 ^ n) (hn : 0 < n) (h9 : n ≤ 9000) : CDivW i (b : Int) := wide_div (by omega) (by simpa using hb) hn h9
theorem cmul {m n : Nat} {i j : Int} (hi : i.natAbs < 2 ^ m) (hj : j.natAbs < 2 ^ n) (h0 : 0 < m) (h1 : 0 < n) (h : m + n ≤ 1000000) : CMulW i j := wide_mul hi hj h0 h1 h
theorem dlt {n : Nat} {a b : Int} (h : a.natAbs < 2 ^ n) : (a / b).natAbs < 2 ^ n := Nat.lt_of_le_of_lt (Int.natAbs_ediv_le_natAbs a b) h
end Yk
namespace Yk
open PySem PySem.Spec PyProof.Rows L2
/-- a row of amounts -/
def Ams (K : PySem.W.Frag) (H : Hp) (vs : List V) (qs : List Rat) : Prop := vs.length = qs.length ∧ ∀ (i : Nat) (v : V) (q : Rat), vs[i]? = some v → qs[i]? = some q → Am K H v q
theorem Ams.x {S : List Addr} {K : PySem.W.Frag} {H H1 : Hp} {vs : List V} {qs : List Rat} (e : Ext S H H1) (h : Ams K H vs qs) (hs : ∀ b ∈ S, ∃ l, H b = some (.lst l)) : Ams K H1 vs qs := ⟨h.1, fun i v q a b => (h.2 i v q a b).x e hs⟩
theorem Ams.x0 {K : PySem.W.Frag} {H H1 : Hp} {vs : List V} {qs : List Rat} (e : Ext [] H H1) (h : Ams K H vs qs) : Ams K H1 vs qs := h.x e fun _ z => nomatch z
theorem Ams.at_ {K : PySem.W.Frag} {H : Hp} {vs : List V} {qs : List Rat} (h : Ams K H vs qs) {i : Nat} {v : V} (hv : vs[i]? = some v) : ∃ q, qs[i]? = some q ∧ Am K H v q := by
  have hi : i < qs.length := by rw [← h.1]; exact (List.getElem?_eq_some_iff.mp hv).1
  exact ⟨qs[i], List.getElem?_eq_getElem hi, h.2 i v _ hv (List.getElem?_eq_getElem hi)⟩
theorem Ams.nil {K : PySem.W.Frag} {H : Hp} : Ams K H [] [] := ⟨rfl, fun i v q h => by simp at h⟩
theorem Ams.cons {K : PySem.W.Frag} {H : Hp} {v : V} {q : Rat} {vs : List V} {qs : List Rat} (h : Am K H v q) (r : Ams K H vs qs) : Ams K H (v :: vs) (q :: qs) := by
  refine ⟨by simp [r.1], fun i w u a b => ?_⟩
  cases i with
  | zero =>
    simp at a b
    subst a b
    exact h
  | succ i =>
    simp at a b
    exact r.2 i w u a b
/-- the smallest, the largest of a row -/
def minQ (p : Rat) (qs : List Rat) : Rat := qs.foldl (fun m q => if q < m then q else m) p
def maxQ (p : Rat) (qs : List Rat) : Rat := qs.foldl (fun m q => if m < q then q else m) p
theorem fold_take {α : Type} {f : α → Rat → α} {z : α} {qs : List Rat} {i : Nat} {q : Rat} (h : qs[i]? = some q) : (qs.take (i + 1)).foldl f z = f ((qs.take i).foldl f z) q := by
  obtain ⟨hl, e⟩ := List.getElem?_eq_some_iff.mp h
  rw [← List.take_append_getElem hl, List.foldl_append, e]
  rfl
theorem minQ_mem {m : Nat} {p : Rat} : ∀ {qs : List Rat}, Sz m p → (∀ q ∈ qs, Sz m q) → Sz m (minQ p qs)
  | [], h, _ => h
  | q :: r, h, hq => by
    show Sz m (minQ (if q < p then q else p) r)
    refine minQ_mem ?_ fun x hx => hq x (List.mem_cons_of_mem _ hx)
    split
    · exact hq q List.mem_cons_self
    · exact h
theorem maxQ_mem {m : Nat} {p : Rat} : ∀ {qs : List Rat}, Sz m p → (∀ q ∈ qs, Sz m q) → Sz m (maxQ p qs)
  | [], h, _ => h
  | q :: r, h, hq => by
    show Sz m (maxQ (if p < q then q else p) r)
    refine maxQ_mem ?_ fun x hx => hq x (List.mem_cons_of_mem _ hx)
    split
    · exact hq q List.mem_cons_self
    · exact h
end Yk
namespace Yk
open PySem PySem.Spec PyProof.Rows L2
/-- what five numbers the bag may hold -/
def Bag5 (ns : List Int) (it : Addr) (l : List V) : Prop := ∃ (pos : Nat) (rest seed cnt : Int), l = [.ref it, .int (pos : Int), .int rest, .int seed, .int cnt] ∧ pos ≤ ns.length ∧ 0 ≤ rest ∧ 0 ≤ seed ∧ seed < 2147483629
structure Bag where
  a : Addr
  it : Addr
  ns : List Int
structure BagAt (K : PySem.W.Frag) (H : Hp) (b : Bag) : Prop where
  ex : ∃ l : List V, H b.a = some (.lst l) ∧ SqL K H b.it (b.ns.map V.int) ∧ b.ns.length ≤ 63 ∧ Bag5 b.ns b.it l
theorem BagAt.lst {K : PySem.W.Frag} {H : Hp} {b : Bag} (h : BagAt K H b) : ∃ l, H b.a = some (.lst l) := by
  obtain ⟨l, h1, _⟩ := h.ex
  exact ⟨l, h1⟩
theorem BagAt.x0 {K : PySem.W.Frag} {H H1 : Hp} {b : Bag} (h : BagAt K H b) (e : Ext [] H H1) : BagAt K H1 b := by
  obtain ⟨l, h1, h2, h3, h4⟩ := h.ex
  exact ⟨l, e _ _ h1 (fun z => nomatch z), lst0 e h2, h3, h4⟩
theorem BagAt.new {K : PySem.W.Frag} {H : Hp} {b : Bag} {p : Addr} {o : HO} (h : BagAt K H b) (hp : H p = none) : BagAt K (upd H p o) b := h.x0 (Ext.refl.new hp)
theorem BagAt.ne {K : PySem.W.Frag} {H : Hp} {b : Bag} {p : Addr} (h : BagAt K H b) (hp : H p = none) : b.a ≠ p := by
  obtain ⟨l, q⟩ := h.lst
  exact ne_of_none q hp
theorem BagAt.ne' {K : PySem.W.Frag} {H : Hp} {b : Bag} {p : Addr} (hp : H p = none) (h : BagAt K H b) : b.a ≠ p := h.ne hp
/-- what was new to a heap with the bag may change later -/
theorem BagAt.own {K : PySem.W.Frag} {H0 H : Hp} {b : Bag} {p : Addr} {o : HO} (h0 : BagAt K H0 b) (hp : H0 p = none) (h : BagAt K H b) : BagAt K (upd H p o) b := by
  obtain ⟨l0, a0, a1, _, _⟩ := h0.ex
  obtain ⟨l, h1, h2, h3, h4⟩ := h.ex
  refine ⟨l, by rw [upd_ne (ne_of_none a0 hp)]; exact h1, ?_, h3, h4⟩
  rcases a1 with a1 | a1
  · have hne : b.it ≠ p := by
      rcases a1 with a1 | ⟨u, a1⟩
      · exact ne_of_none a1 hp
      · exact ne_of_none a1 hp
    rcases h2 with (h2 | ⟨u, h2⟩) | h2
    · exact .inl (.inl (by rw [upd_ne hne]; exact h2))
    · exact .inl (.inr ⟨u, by rw [upd_ne hne]; exact h2⟩)
    · exact .inr h2
  · exact .inr a1
theorem tupB {K : PySem.W.Frag} {H H1 : Hp} {a : Addr} {b : Bag} {xs : List V} (hb : BagAt K H b) (e : Ext [b.a] H H1) (h : SqT K H a xs) : SqT K H1 a xs := tupX e h fun c hc => by rw [List.mem_singleton.mp hc]; exact hb.lst
theorem Am.b {K : PySem.W.Frag} {H H1 : Hp} {b : Bag} {v : V} {q : Rat} (hb : BagAt K H b) (e : Ext [b.a] H H1) (h : Am K H v q) : Am K H1 v q := h.x e fun c hc => by rw [List.mem_singleton.mp hc]; exact hb.lst
theorem Am.b' {K : PySem.W.Frag} {H H1 : Hp} {b : Bag} {v : V} {q : Rat} (e : Ext [b.a] H H1) (hb : BagAt K H b) (h : Am K H v q) : Am K H1 v q := h.b hb e
theorem Ams.b {K : PySem.W.Frag} {H H1 : Hp} {b : Bag} {v : List V} {q : List Rat} (hb : BagAt K H b) (e : Ext [b.a] H H1) (h : Ams K H v q) : Ams K H1 v q := h.x e fun c hc => by rw [List.mem_singleton.mp hc]; exact hb.lst
theorem Am.n {K : PySem.W.Frag} {H : Hp} {p : Addr} {o : HO} {v : V} {q : Rat} (h : Am K H v q) (hp : H p = none) : Am K (upd H p o) v q := h.x0 (Ext.refl.new hp)
theorem am_lit {K : PySem.W.Frag} {H : Hp} {a : Addr} {n : Int} {d : Nat} (hd : d ≠ 0) (hc : n.natAbs.Coprime d) (h : SqT K H a [.int n, .int (d : Int)]) : Am K H (.ref a) ⟨n, d, hd, hc⟩ := ⟨a, rfl, h⟩
end Yk

open PySem PySem.Spec PyProof.Rows L2 Yk
local macro_rules | `(tactic| walk_at "sq") => `(tactic| first
  | assumption
  | exact tupS
  | exact lstS
  | ((refine' tupN ?h1 (by assumption)); (case h1 => walk_at "sq"))
  | ((refine' lstN ?h1 (by assumption)); (case h1 => walk_at "sq"))
  | ((refine' tup0 (by assumption) ?h1); (case h1 => walk_at "sq"))
  | ((refine' lst0 (by assumption) ?h1); (case h1 => walk_at "sq")))
local macro_rules | `(tactic| walk_at "side") => `(tactic| first | assumption | decide | omega | exact Or.inr ⟨by decide, by decide⟩ | exact ⟨by decide, by decide, by decide⟩ | exact ⟨by decide, by decide +kernel⟩)
local macro_rules | `(tactic| walk_at "ty") => `(tactic| first
  | exact TyX.base TyOf.non
  | exact TyX.base (TyOf.bl _)
  | exact TyX.base (TyOf.int _)
  | exact TyX.base (TyOf.str _)
  | ((refine' tyT ?h1); (case h1 => walk_at "sq"))
  | ((refine' tyL ?h1); (case h1 => walk_at "sq")))
local macro_rules | `(tactic| walk_at "st") => `(tactic| first
  | with_reducible refine' r_seq ?_
  | with_reducible refine' r_asg ?_
  | with_reducible refine' r_ret ?_
  | with_reducible refine' r_drop ?_
  | with_reducible refine' r_ifS ?_
  | with_reducible refine' r_par ?_
  | with_reducible refine' r_name ?_
  | with_reducible refine' r_gCons ?_
  | with_reducible refine' r_gNil ?_
  | with_reducible refine' r_gSub ?_
  | ((with_reducible refine' r_gTup ?h1 ?h2 ?h3); (case h1 => walk_at "sq"); (case h2 => rfl))
  | with_reducible refine' r_op ?_
  | with_reducible refine' r_un ?_
  | with_reducible refine' r_c ?_
  | ((with_reducible refine' r_var ?h1 ?h2); (case h1 => rfl))
  | with_reducible refine' r_I0 ?_
  | with_reducible refine' r_U ?_
  | ((with_reducible refine' r_I ?h1 ?h2); (case h1 => walk_at "side"))
  | ((with_reducible refine' r_ixT ?h1 ?h2 ?h3); (case h1 => walk_at "sq"); (case h2 => rfl))
  | ((with_reducible refine' r_ixL ?h1 ?h2 ?h3); (case h1 => walk_at "sq"); (case h2 => rfl))
  | with_reducible refine' r_cons ?_
  | with_reducible refine' r_nil ?_
  | with_reducible refine' r_tup ?_
  | with_reducible refine' r_lst ?_
  | with_reducible refine' r_CB ?_
  | with_reducible refine' r_R ?_
  | with_reducible refine' r_R1 ?_
  | with_reducible refine' r_star ?_
  | with_reducible refine' r_RS ?_
  | with_reducible refine' r_RX ?_
  | with_reducible refine' r_gcd ?_
  | ((with_reducible refine' r_aug ?h1 ?h2); (case h1 => rfl))
  | with_reducible refine' r_ipI ?_
  | ((with_reducible refine' r_app ?h1 ?h2 ?h3); (case h1 => assumption); (case h2 => first | assumption | omega))
  | with_reducible refine' r_test ?_
  | with_reducible refine' r_B ?_
  | with_reducible refine' r_bl ?_
  | with_reducible refine' r_if ?_
  | with_reducible refine' r_and ?_
  | with_reducible refine' r_or ?_
  | with_reducible refine' r_not ?_
  | with_reducible refine' r_next ?_
  | with_reducible refine' r_int ?_
  | with_reducible refine' r_exI ?_
  | with_reducible refine' r_andV ?_
  | with_reducible refine' r_orV ?_
  | with_reducible refine' r_notV ?_
  | ((with_reducible refine' r_isi ?h1 ?h2 ?h3); (case h1 => walk_at "ty"); (case h2 => rfl))
  | ((with_reducible refine' r_isiT ?h1 ?h2 ?h3 ?h4); (case h1 => exact upd_same); (case h2 => walk_at "ty"); (case h3 => rfl))
  | with_reducible refine' And.intro (rfl : V.non = V.non) ?_
  | with_reducible refine' r_BM ?_
  | with_reducible refine' r_BM0 ?_
  | with_reducible refine' r_lc ?_
  | with_reducible refine' r_yes ?_
  | with_reducible refine' r_tt ?_
  | with_reducible refine' r_iRng1 ?_
  | with_reducible refine' r_iList ?_
  | with_reducible refine' r_iTup ?_
  | with_reducible refine' r_iZip ?_
  | ((with_reducible refine' r_gUnl ?h1 ?h2 ?h3); (case h1 => walk_at "sq"); (case h2 => rfl))
  | with_reducible refine' r_slL ?_
  | with_reducible refine' r_noP ?_
  | with_reducible refine' r_part ?_
  | ((with_reducible refine' r_len ?h1 ?h2); (case h1 => (first | (refine Or.inl ?_; walk_at "sq") | (refine Or.inr ?_; walk_at "sq"))))
  | ((with_reducible refine' r_eq ?h1 ?h2); (case h1 => rfl))
  | ((with_reducible refine' r_ne ?h1 ?h2); (case h1 => rfl))
  | ((with_reducible refine' And.intro ?h1 ?h2); (case h1 => (simp only [List.length_cons, List.length_nil, List.length_map]; decide)); (intro np hnp))
  | ((with_reducible refine' Exists.intro _ (Exists.intro _ (And.intro ?h1 ?h2))); (case h1 => (show ([_, _] : List V) = [_, _]; rfl)))
  | ((with_reducible refine' Exists.intro _ (And.intro ?h1 ?h2)); (case h1 => (first | (show ([_] : List V) = arr _ _ _ _ _; rfl) | (show ([_, _] : List V) = arr _ _ _ _ _; rfl) | (show ([_, _, _] : List V) = arr _ _ _ _ _; rfl)))))
local macro_rules | `(tactic| walk_at "go") => `(tactic| repeat walk_at "st")
local macro_rules | `(tactic| walk_at "bag") => `(tactic| first
  | assumption
  | (refine BagAt.new ?_ (by assumption); walk_at "bag")
  | (refine BagAt.x0 ?_ (by assumption); walk_at "bag"))
local macro_rules | `(tactic| walk_at "ext") => `(tactic| first
  | assumption
  | exact Ext.refl
  | (refine Ext.new ?_ (by assumption); walk_at "ext")
  | (refine Ext.trans ?_ (by assumption); walk_at "ext"))
local macro_rules | `(tactic| walk_at "ams") => `(tactic| first
  | exact Ams.nil
  | (refine Ams.cons ?_ ?_; (first | assumption | (refine am_lit _ _ ?_; walk_at "sq")); walk_at "ams"))
local macro_rules | `(tactic| walk_at "br") => `(tactic| first
  | ((with_reducible refine' r_true ?h1 ?h2); (case h1 => rfl))
  | ((with_reducible refine' r_false ?h1 ?h2); (case h1 => rfl)))
local macro_rules | `(tactic| walk_at "run") => `(tactic| repeat (first | walk_at "st" | walk_at "br"))
local macro_rules | `(tactic| walk_at "am") => `(tactic| first
  | assumption
  | (refine Am.x0 (by assumption) ?_; walk_at "am")
  | (refine Am.n ?_ (by assumption); walk_at "am")
  | (refine Am.b' (by assumption) (by assumption) ?_; walk_at "am"))
set_option maxHeartbeats 1000000
/-! A head whose part of the heap is told by a written list of addresses; its run's looks in pieces. -/
namespace Hk
open PySem PySem.Spec PyProof.Rows L2 He
/-- a def that stands at a path of the part -/
structure DefP where
  path : PySem.W.Frag → Addr
  name : Str
  qual : Str
  params : Arguments
  body : List Stmt
  scope : Scope
  dfl : List Dv := []
  kwd : List (Str × Dv) := []
def DefP.val (d : DefP) : FnW := some (d.name, d.qual, d.params, .stmts d.body, d.scope, mainGlobals, [], builtinsNs)
def DefP.dvs (K : PySem.W.Frag) (d : DefP) : List V := d.dfl.map (Dv.v K)
def DefP.kws (K : PySem.W.Frag) (d : DefP) : List (Str × V) := d.kwd.map fun q => (q.1, q.2.v K)
def seen (K : PySem.W.Frag) (a : Addr) : FnW := match K.lookup a with
  | some o => (match o.data with
    | .func u => some (u.name, u.qualname, u.params, u.body, u.scope, u.globals, u.closure, u.builtins)
    | _ => none)
  | none => none
def good (K : PySem.W.Frag) (d : DefP) (a : Addr) : Bool := PySem.W.keepIn K (.ref a) && match K.lookup a with
  | some o => (match o.data with
    | .func u => PySem.W.codeIn K u.code d.qual && (dflB K u.defaults (d.dvs K) && kwdB K u.kwdefaults (d.kws K))
    | _ => false)
  | none => false
theorem funD_of {K : PySem.W.Frag} {d : DefP} (e : seen K (d.path K) = d.val) (c : good K d (d.path K) = true) : ∃ fd, FunD K d.name d.qual d.params d.body d.scope (d.dvs K) (d.kws K) (d.path K) fd := by
  obtain ⟨kp, c2⟩ := Bool.and_eq_true_iff.mp c
  unfold seen at e
  generalize ha : d.path K = a at *
  cases q : K.lookup a with
  | none => simp only [q] at c2; cases c2
  | some o =>
    simp only [q] at c2 e
    obtain ⟨oc, od, dt, osl⟩ := o
    cases dt with
    | func fd =>
      dsimp only at c2 e
      obtain ⟨k1, k2⟩ := Bool.and_eq_true_iff.mp c2
      obtain ⟨k3, k4⟩ := Bool.and_eq_true_iff.mp k2
      obtain ⟨m1, m2, m3, m4, m5, m6, m7, m8, m9, m10, m11, m12, m13, m14, m15⟩ := fd
      unfold DefP.val at e
      dsimp only at e k1 k3 k4
      injection e with e
      injection e with e1 e; injection e with e2 e; injection e with e3 e; injection e with e4 e; injection e with e5 e; injection e with e6 e; injection e with e7 e8
      subst e1 e2 e3 e4 e5 e6 e7 e8
      exact ⟨_, ⟨oc, od, m8, m9, m10, m11, m12, m13, m14, osl, rfl, q, k1, dflB_ok k3, kwdB_ok k4⟩, kp⟩
    | _ => dsimp only at c2; cases c2
abbrev Al : Type := Bool × List FnW
def look (as : List Addr) (fa : List Fa) (fn : List DefP) (ex : PySem.W.Frag → Bool) (K : PySem.W.Frag) : Al := ((fa.all fun f => f.ok K) && ((fn.all fun d => good K d (d.path K)) && ex K), fn.map fun d => seen K (d.path K))
def due (fn : List DefP) : Al := (true, fn.map DefP.val)
structure Says (fa : List Fa) (fn : List DefP) (ex : PySem.W.Frag → Bool) (K : PySem.W.Frag) : Prop where
  fact : ∀ (i : Nat) (f : Fa), fa[i]? = some f → f.ok K = true
  def_ : ∀ (i : Nat) (d : DefP), fn[i]? = some d → ∃ fd, FunD K d.name d.qual d.params d.body d.scope (d.dvs K) (d.kws K) (d.path K) fd
  more : ex K = true
theorem says_of {as : List Addr} {fa : List Fa} {fn : List DefP} {ex : PySem.W.Frag → Bool} {K : PySem.W.Frag} (e : look as fa fn ex K = due fn) : Says fa fn ex K := by
  have e1 : ((fa.all fun f => f.ok K) && ((fn.all fun d => good K d (d.path K)) && ex K)) = true := congrArg (·.1) e
  have e2 : (fn.map fun d => seen K (d.path K)) = fn.map DefP.val := congrArg (·.2) e
  obtain ⟨h1, h⟩ := Bool.and_eq_true_iff.mp e1
  obtain ⟨h2, h3⟩ := Bool.and_eq_true_iff.mp h
  refine ⟨fun i f hf => List.all_eq_true.mp h1 f (List.mem_of_getElem? hf), fun i d hd => funD_of ?_ (List.all_eq_true.mp h2 d (List.mem_of_getElem? hd)), h3⟩
  have e3 := congrArg (fun l : List FnW => l[i]?) e2
  rw [List.getElem?_map, List.getElem?_map, hd] at e3
  exact Option.some.inj e3
/-- by the written addresses -/
def obG (as : List Addr) (fa : List Fa) (fn : List DefP) (ex : PySem.W.Frag → Bool) (g : Addr → Option Obj) : Al := look as fa fn ex (frG g as)
def hook (as : List Addr) (fa : List Fa) (fn : List DefP) (ex : PySem.W.Frag → Bool) : PySem.W.Hook where
  α := Al
  obs := fun s => obG as fa fn ex s.heap.get?
  val := fun _ => due fn
  says := fun _ h => ∃ K : PySem.W.Frag, K.In h ∧ Says fa fn ex K
  of := fun _ _ e => ⟨_, frG_in, says_of e⟩
  keeps := fun _ _ _ ⟨K, hK, c⟩ k => ⟨K, PySem.W.Frag.In.keeps hK k, c⟩
theorem obG_eq {as : List Addr} {fa : List Fa} {fn : List DefP} {ex : PySem.W.Frag → Bool} {g : Addr → Option Obj} {s : Shared} (h : ∀ a, g a = s.heap.get? a) : obG as fa fn ex g = (hook as fa fn ex).obs s := by
  have e : g = s.heap.get? := funext h
  rw [e]
  rfl
end Hk
namespace Hk
open PySem PySem.W PySem.Spec PyProof.Rows L2 He HandSHeadRun
/-- the def behind a property -/
def getter (K : PySem.W.Frag) (p : Addr) : Addr := match PySem.W.recIn K p "property" with
  | some (.ref g :: _) => g
  | _ => 0
noncomputable abbrev whole (r : OpenRow) (M : Nat) (w : World) := wholeF (fun p => stepQ (denQ tabQ) p w) fenceQ M r.prog
/-- one look at the run's end -/
def At {α : Type} (r : OpenRow) (M : Nat) (w : World) (f : Shared × SharedT → α) (v : α) : Prop := (whole r M w).map f = some v
theorem At.and {r : OpenRow} {M : Nat} {w : World} {f g : Shared × SharedT → Bool} (a : At r M w f true) (b : At r M w g true) : At r M w (fun x => f x && g x) true := by
  obtain ⟨x, hx, ex⟩ := Option.map_eq_some_iff.mp a
  obtain ⟨y, hy, ey⟩ := Option.map_eq_some_iff.mp b
  rw [hx] at hy
  cases hy
  exact Option.map_eq_some_iff.mpr ⟨x, hx, by rw [ex, ey]; rfl⟩
theorem join {r : OpenRow} {q : Program} {M : Nat} {loose : List Str} {w : World} {as : List Addr} {fa : List Fa} {fn : List DefP} {ex : Frag → Bool}
    (a : At r M w (fun x => obG as fa fn ex (getT x.2)) (due fn)) (b : At r M w (fun x => staticsOk (importedModules r.prog.main.body) x.1.heap x.2.abs.heap && laidKept x.1.heap x.2.abs.heap) true)
    (b2 : At r M w (fun x => namesBound r.prog x.2.abs.heap && gensDone x.2.abs) true)
    (c : At r M w (fun x => seenQ q loose (importedModules r.prog.main.body) (fun s => xlAt q [] s && recOk r.toRowW.records s) x.2.abs) (openGood q loose)) : RunEqI r q (hook as fa fn ex) (fun s => obG as fa fn ex (getT s)) M loose w := by
  obtain ⟨x, hx, e1⟩ := Option.map_eq_some_iff.mp a
  obtain ⟨x2, hx2, e2⟩ := Option.map_eq_some_iff.mp b
  obtain ⟨x3, hx3, e3⟩ := Option.map_eq_some_iff.mp b2
  obtain ⟨x4, hx4, e4⟩ := Option.map_eq_some_iff.mp c
  rw [hx] at hx2 hx3 hx4
  cases hx2
  cases hx3
  cases hx4
  obtain ⟨p1, p2⟩ := Bool.and_eq_true_iff.mp e2
  obtain ⟨p3, p4⟩ := Bool.and_eq_true_iff.mp e3
  refine Option.map_eq_some_iff.mpr ⟨x, hx, ?_⟩
  have l : looksF r.prog x.1.heap x.2.abs = true := by
    unfold looksF
    rw [p1, p2, p3, p4]
    rfl
  rw [l, e4]
  exact congrArg (fun z => (true, openGood q loose, z)) e1
end Hk
namespace Hk
open PySem PySem.W PySem.Spec PyProof.Rows L2 He
/-- the class x has the name f as a property -/
def propB (K : Frag) (x f : Str) : Bool := eqO (findIn K (.ref (ga K x)) f) (some (some (.ref (ma K (ga K x) f)))) && (eqO (specialIn K (.ref (ma K (ga K x) f)) "__get__") (some (some (.builtin "property.__get__"))) &&
  (decide (takesIn K (.ref (ma K (ga K x) f)) = some true) && (match recIn K (ma K (ga K x) f) "property" with
    | some (.ref _ :: _) => true
    | _ => false)))
theorem propB_ok {K : Frag} {x f : Str} (h : propB K x f = true) : PropOf K (ga K x) f (ma K (ga K x) f) (getter K (ma K (ga K x) f)) := by
  obtain ⟨h1, h⟩ := Bool.and_eq_true_iff.mp h
  obtain ⟨h2, h⟩ := Bool.and_eq_true_iff.mp h
  obtain ⟨h3, h4⟩ := Bool.and_eq_true_iff.mp h
  refine ⟨eqO_ok h1, eqO_ok h2, of_decide_eq_true h3, ?_⟩
  unfold getter
  cases e : recIn K (ma K (ga K x) f) "property" with
  | none => rw [e] at h4; cases h4
  | some l =>
    rw [e] at h4
    cases l with
    | nil => cases h4
    | cons v r =>
      cases v with
      | ref g => exact ⟨r, rfl⟩
      | _ => cases h4
end Hk

set_option maxHeartbeats 1000000
/-! A hook and an end for a law one of whose defs makes a lambda: the table in its code object is told apart. -/
namespace Hk
open PySem PySem.Spec PyProof.Rows L2 He
def obGT (as : List Addr) (fa : List Fa) (fn : List DefP) (tf : List Defn) (ex : PySem.W.Frag → Bool) (g : Addr → Option Obj) : Al × Bool := (look as fa fn ex (frT g as), tabsB g tf (frT g as))
structure SaysTb (fa : List Fa) (fn : List DefP) (tf : List Defn) (ex : PySem.W.Frag → Bool) (h : Heap) (K : PySem.W.Frag) : Prop where
  s : Says fa fn ex K
  hd : ∀ d ∈ tf, PySem.W.codeHdIn K (cT K d).1 (cT K d).2 = true
  out : ∀ d ∈ tf, K.lookup (cT K d).2 = none
  empty : ∀ d ∈ tf, h.get? (cT K d).2 = some { cls := .none, data := .fields #[] }
theorem saysTb_of {as : List Addr} {fa : List Fa} {fn : List DefP} {tf : List Defn} {ex : PySem.W.Frag → Bool} {h : Heap} (e : obGT as fa fn tf ex h.get? = (due fn, true)) : SaysTb fa fn tf ex h (frT h.get? as) := by
  have e1 : look as fa fn ex (frT h.get? as) = due fn := congrArg (·.1) e
  have e2 : tabsB h.get? tf (frT h.get? as) = true := congrArg (·.2) e
  generalize hK : frT h.get? as = K at *
  have tab : ∀ p ∈ tf, PySem.W.codeHdIn K (cT K p).1 (cT K p).2 = true ∧ ∃ o, h.get? (cT K p).2 = some o ∧ emptyTab o = true := fun p hp => by
    obtain ⟨a, b⟩ := Bool.and_eq_true_iff.mp (List.all_eq_true.mp e2 p hp)
    cases q : h.get? (cT K p).2 with
    | none => rw [q] at b; cases b
    | some o => rw [q] at b; exact ⟨a, o, rfl, b⟩
  refine ⟨says_of e1, fun p hp => (tab p hp).1, fun p hp => ?_, fun p hp => ?_⟩
  · obtain ⟨_, o, q, z⟩ := tab p hp
    have := frT_none (as := as) q z
    rwa [hK] at this
  · obtain ⟨_, o, q, z⟩ := tab p hp
    rw [q, emptyTab_eq z]
def hookT (as : List Addr) (fa : List Fa) (fn : List DefP) (tf : List Defn) (ex : PySem.W.Frag → Bool) : PySem.W.Hook where
  α := Al × Bool
  obs := fun s => obGT as fa fn tf ex s.heap.get?
  val := fun _ => (due fn, true)
  says := fun _ h => ∃ K : PySem.W.Frag, K.In h ∧ SaysTb fa fn tf ex h K
  of := fun _ _ e => ⟨_, frT_in, saysTb_of e⟩
  keeps := fun _ _ _ ⟨K, hK, c⟩ k => ⟨K, PySem.W.Frag.In.keeps hK k, c.s, c.hd, c.out, fun p hp => k _ _ (c.empty p hp)⟩
theorem obGT_eq {as : List Addr} {fa : List Fa} {fn : List DefP} {tf : List Defn} {ex : PySem.W.Frag → Bool} {g : Addr → Option Obj} {s : Shared} (h : ∀ a, g a = s.heap.get? a) : obGT as fa fn tf ex g = (hookT as fa fn tf ex).obs s := by
  obtain rfl : g = s.heap.get? := funext h
  rfl
theorem code_of {K : PySem.W.Frag} {x : Str} {params : Arguments} {body : List Stmt} {scope : Scope} {dvs : List V} {kws : List (Str × V)} {fd : FuncData} (F : FunD K x x params body scope dvs kws (ga K x) fd) : fd.code = .ref (cT K (x, none)).1 := by
  obtain ⟨a1, a2, a3, a4, a5, a6, a7, cdv, a9, a10, e, lk, hcd, _⟩ := F.ex
  subst e
  obtain ⟨c, rfl⟩ := codeIn_ref hcd
  have := codeOf_eq (p := (x, none)) lk rfl
  show Value.ref c = .ref (codeOf K (x, none))
  rw [this]
end Hk
namespace Hk
open PySem PySem.Spec PyProof.Rows L2 LamX
theorem walk_ofET {l : PySem.W.OpenLaw} {n k : Nat} {q : Program} {loose : List Str} {XP : (Str → Option Value) → Heap → Prop} {YP : World → Heap → Prop} {d : DefRec} {CX : CXT} {x : Str} (hn : l.most = some n) (hn2 : n ≤ sizeLine) (hdf : d.params.defaults = []) (hr : Room k callerA)
    (F : ∀ (w : World) (mg : Str → Option Value) (fa : Addr) (h : Heap), YP w h → h.Ns mainGlobals mg → mg d.name = some (.ref fa) → ∃ (K : PySem.W.Frag) (fd : FuncData) (cs : List (Addr × Addr)) (sp : Sp), K.In h ∧ (∀ p ∈ cs, h.get? p.2 = some { cls := .none, data := .fields #[] }) ∧ (∀ p ∈ cs, K.lookup p.2 = none) ∧
      (∀ p ∈ cs, PySem.W.CodeHd h p.1 p.2) ∧ (∀ (s : Shared) (u : Value), BindsTo s fd ⟨[u], []⟩ [(x, u)]) ∧ (∀ (H : Hp) (a : Addr) (ns : List Int), ns.length ≤ n → (∀ p ∈ cs, H p.2 = some (.tbl #[])) → SqL K H a (ns.map V.int) → sp [.ref a] H (fun v _ => v = .bl true) fun _ _ _ => False) ∧
      ∀ base : Heap, K.In base → base.Ns mainGlobals mg → (∀ p ∈ cs, TabB base mg p.1 p.2) → FnOk l.prog w K mg base CX k fa fd [x] sp)
    (hCX : ∀ (H : Hp) (s : Shared) (e : Value) (s' : Shared), CX [] H s (fun _ _ _ => False) e s' → False) : PySem.W.WalkO q loose XP YP l.row.toRowW d [] (fun f vs => PySem.call f vs) := by
  refine Att.attach_callB hn hdf fun w s0 s1 mg mb fa o pm cd doc a vs ns G Y ho hd hcd hmg hobj hints hlen hbits hg => ?_
  obtain ⟨K, fd, cs, sp, KX, hT, nT, C, hb, hsp, hF⟩ := F w mg fa _ Y G.T.g hmg
  exact law_callTs KX G.T.g G.T.b G.T.builtins G.T.nolimit hg hT nT C G.T.bmain hobj hints (Nat.le_trans hlen hn2) hr hF hb (fun H hH hS => hsp H a ns hlen hH hS) fun H e s' => hCX H s1 e s'
end Hk

set_option maxHeartbeats 0
namespace YkHead
open PySem PySem.Spec PyProof.Rows L2 Yk
def dD (x : Str) (i : Nat) : Hk.DefP := ⟨fun K => He.ga K x, x, x, defArgs (top i), defBody (top i), defScope (top i), [], []⟩
def fn0 : List Hk.DefP := [dD "plus" 7, dD "minus" 8, dD "_added" 9, dD "times" 10, dD "over" 11, dD "_product" 12, dD "compare" 13, dD "smallest" 14, dD "largest" 15, dD "share" 17, dD "total" 18, dD "allotments" 20, dD "spare_shares" 21, dD "_least_reaching" 22, dD "_breaks" 23, dD "_first_reaching" 24, dD "_on_line" 25, dD "_ascending" 26, dD "_merged" 27, dD "own_sends" 29]
def fn1 : List Hk.DefP := [dD "spare_sends" 30, dD "rank_sends" 31, dD "_law_bag" 33, dD "_law_draw" 34, dD "_law_of" 35, dD "_law_mixed" 36, dD "_law_amount" 37, dD "_law_sum" 38, dD "_law_rest" 39, dD "_law_scaled" 40, dD "_law_less" 41, dD "_law_min" 42, dD "_law_all" 43, dD "_law_same" 44, dD "_law_some" 45, dD "_law_part" 46, dD "_law_extras" 47, dD "_law_drawn" 48, dD "_law_sums_up" 49, dD "_law_level_extras" 50]
def fn2 : List Hk.DefP := [dD "_law_ranked" 51, dD "law" 52]
def fn : List Hk.DefP := fn0 ++ fn1 ++ fn2
def fa0 : List He.Fa := [.glo "plus", .glo "minus", .glo "_added", .glo "times", .glo "over", .glo "_product", .glo "compare", .glo "smallest", .glo "largest", .glo "share", .glo "total", .glo "allotments", .glo "spare_shares", .glo "_least_reaching", .glo "_breaks", .glo "_first_reaching", .glo "_on_line", .glo "_ascending", .glo "_merged", .glo "own_sends"]
def fa1 : List He.Fa := [.glo "spare_sends", .glo "rank_sends", .glo "_law_bag", .glo "_law_draw", .glo "_law_of", .glo "_law_mixed", .glo "_law_amount", .glo "_law_sum", .glo "_law_rest", .glo "_law_scaled", .glo "_law_less", .glo "_law_min", .glo "_law_all", .glo "_law_same", .glo "_law_some", .glo "_law_part", .glo "_law_extras", .glo "_law_drawn", .glo "_law_sums_up", .glo "_law_level_extras"]
def fa2 : List He.Fa := [.glo "_law_ranked", .glo "law", .free "ValueError", .free "all", .free "any", .free "bool", .free "divmod", .free "int", .free "isinstance", .free "len", .free "list", .free "max", .free "min", .free "range", .free "sorted", .free "str", .free "sum", .free "tuple", .free "zip"]
def fa : List He.Fa := fa0 ++ fa1 ++ fa2
def ex (K : PySem.W.Frag) : Bool := He.eqO (PySem.W.nsIn K mainGlobals "gcd") (some (some (.builtin "math.gcd"))) && He.eqO (PySem.W.nsIn K mainGlobals "ZERO") (some (some (.ref (He.ga K "ZERO")))) && He.tupB K "ZERO" [.int 0, .int 1]
abbrev R : PySem.W.OpenRow := PySem.W.OpenLaw.row PySem.Challenge.rw_bandheld_k34_whole_disciplines
def as_0 : List Addr := [3, 6, 4, 52, 72, 91, 94, 101, 108, 115, 122, 129, 136, 143, 150, 157, 164, 169, 174, 179, 186, 191, 198, 205, 212, 219, 224, 229, 236, 243, 250, 257, 264, 271, 278, 285, 292, 299, 306, 313]
def as_1 : List Addr := [318, 325, 332, 337, 342, 349, 354, 361, 366, 0, 51, 71, 90, 100, 107, 114, 121, 128, 135, 142, 149, 156, 163, 168, 173, 178, 185, 190, 197, 204, 211, 218, 223, 228, 235, 242, 249, 256, 263, 270]
def as_2 : List Addr := [277, 284, 291, 298, 305, 312, 317, 324, 331, 336, 341, 348, 353, 360, 365, 50, 53, 69, 70, 88, 89, 95, 96, 97, 98, 99, 102, 103, 104, 105, 106, 109, 110, 111, 112, 113, 116, 117, 118, 119]
def as_3 : List Addr := [120, 123, 124, 125, 126, 127, 130, 131, 132, 133, 134, 137, 138, 139, 140, 141, 144, 145, 146, 147, 148, 151, 152, 153, 154, 155, 158, 159, 160, 161, 162, 165, 166, 167, 170, 171, 172, 175, 176, 177]
def as_4 : List Addr := [180, 181, 182, 183, 184, 187, 188, 189, 192, 193, 194, 195, 196, 199, 200, 201, 202, 203, 206, 207, 208, 209, 210, 213, 214, 215, 216, 217, 220, 221, 222, 225, 226, 227, 230, 231, 232, 233, 234, 237]
def as_5 : List Addr := [238, 239, 240, 241, 244, 245, 246, 247, 248, 251, 252, 253, 254, 255, 258, 259, 260, 261, 262, 265, 266, 267, 268, 269, 272, 273, 274, 275, 276, 279, 280, 281, 282, 283, 286, 287, 288, 289, 290, 293]
def as_6 : List Addr := [294, 295, 296, 297, 300, 301, 302, 303, 304, 307, 308, 309, 310, 311, 314, 315, 316, 319, 320, 321, 322, 323, 326, 327, 328, 329, 330, 333, 334, 335, 338, 339, 340, 343, 344, 345, 346, 347, 350, 351]
def as_7 : List Addr := [352, 355, 356, 357, 358, 359, 362, 363, 364, 68, 87, 63, 64, 65, 66, 67, 82, 83, 84, 85, 86]
def as_ : List Addr := as_0 ++ as_1 ++ as_2 ++ as_3 ++ as_4 ++ as_5 ++ as_6 ++ as_7
def tf : List He.Defn := [("_law_extras", none)]
noncomputable abbrev hk : PySem.W.Hook := Hk.hookT as_ fa fn tf ex
def ob (s : PySem.W.SharedT) : Hk.Al × Bool := Hk.obGT as_ fa fn tf ex (HandSHeadRun.getT s)
theorem ob_eq (s : PySem.W.SharedT) : ob s = hk.obs s.abs := Hk.obGT_eq (HandSHeadRun.getT_eq s)
def loose0 : List Str := ["plus", "minus", "_added", "times", "over", "_product", "compare", "smallest", "largest", "share", "total", "allotments", "spare_shares", "_least_reaching", "_breaks", "_first_reaching", "_on_line", "_ascending", "_merged", "own_sends"]
def loose1 : List Str := ["spare_sends", "rank_sends", "_law_bag", "_law_draw", "_law_of", "_law_mixed", "_law_amount", "_law_sum", "_law_rest", "_law_scaled", "_law_less", "_law_min", "_law_all", "_law_same", "_law_some", "_law_part", "_law_extras", "_law_drawn", "_law_sums_up", "_law_level_extras"]
def loose2 : List Str := ["_law_ranked", "BandError", "BadAmount", "Short", "ZERO"]
def loose : List Str := loose0 ++ loose1 ++ loose2
abbrev vw : Program := PySem.W.view R.prog [0, 52]
theorem run (w : World) : HandSHeadRun.RunEqI R vw hk ob 8000 loose w := by
  unfold HandSHeadRun.RunEqI
  kernel_rfl
end YkHead

set_option maxHeartbeats 1000000
/-! Texts of numbers. -/
namespace Yk
open PySem PySem.Spec PyProof.Rows L2 TL
/-- the text of a number -/
def nt (n : Nat) : Str := Str.ofString (toString ((n : Nat) : Int))
theorem tl_nt (n : Nat) : tl (nt n) = numL n := tl_num n
theorem cps_nt (n : Nat) : (nt n).cps.toList = numL n := tl_nt n
theorem str_eq {a b : Str} (h : tl a = tl b) : a = b := Str.ext' (Array.toList_inj.mp h)
theorem len_nt (n : Nat) : (nt n).length = (numL n).length := by rw [← tl_nt]; exact (Array.length_toList).symm
theorem numL_le {n k : Nat} (hk : 0 < k) (h : n < 10 ^ k) : (numL n).length ≤ k := by
  unfold numL
  rw [List.length_map]
  exact (Nat.length_toDigits_le_iff (by decide) hk).mpr h
theorem numL_ne (n : Nat) : numL n ≠ [] := by
  unfold numL
  intro e
  have h := List.map_eq_nil_iff.mp e
  have h2 : 0 < (Nat.toDigits 10 n).length := by
    by_cases hn : n < 10
    · rw [Nat.toDigits_of_lt_base hn]; simp
    · rw [Nat.toDigits_of_base_le (by decide) (by omega)]; simp
  rw [h] at h2
  exact absurd h2 (by decide)
theorem numL_snoc {n d : Nat} (hn : 0 < n) (hd : d < 10) : numL (n * 10 + d) = numL n ++ numL d := by
  unfold numL
  rw [← List.map_append, Nat.toDigits_append_toDigits (by decide) hn hd, Nat.mul_comm]
theorem numL_digit {d : Nat} (hd : d < 10) : numL d = [48 + d] := numL_lt hd
/-- filled up with noughts -/
def padL (k n : Nat) : List Nat := List.replicate (k - (numL n).length) 48 ++ numL n
theorem numL_split : ∀ (k : Nat) (q r : Nat), 0 < q → r < 10 ^ (k + 1) → numL (q * 10 ^ (k + 1) + r) = numL q ++ padL (k + 1) r
  | 0, q, r, hq, hr => by
    have hr' : r < 10 := by simpa using hr
    unfold padL
    rw [numL_digit hr', show 10 ^ (0 + 1) = 10 from rfl, numL_snoc hq hr', numL_digit hr']
    rfl
  | k + 1, q, r, hq, hr => by
    have h1 : r / 10 < 10 ^ (k + 1) := Nat.div_lt_of_lt_mul (by rw [Nat.pow_succ] at hr; omega)
    have hd : r % 10 < 10 := Nat.mod_lt _ (by decide)
    have e : q * 10 ^ (k + 1 + 1) + r = (q * 10 ^ (k + 1) + r / 10) * 10 + r % 10 := by
      rw [Nat.pow_succ 10 (k + 1), ← Nat.mul_assoc, Nat.add_mul, Nat.add_assoc, Nat.div_add_mod' r 10]
    have hp : 0 < q * 10 ^ (k + 1) + r / 10 := by
      have : 0 < q * 10 ^ (k + 1) := Nat.mul_pos hq (Nat.pow_pos (by decide))
      omega
    rw [e, numL_snoc hp hd, numL_split k q (r / 10) hq h1, List.append_assoc]
    congr 1
    unfold padL
    by_cases hz : r / 10 = 0
    · have er : r = r % 10 := by omega
      rw [hz, numL_digit (show 0 < 10 by decide), numL_digit hd]
      have e2 : numL r = [48 + r % 10] := by rw [er]; simpa using numL_digit hd
      rw [e2]
      have h3 : List.replicate (k + 1 - [48 + 0].length) 48 ++ [48 + 0] = List.replicate (k + 1) 48 := by
        show List.replicate (k + 1 - 1) 48 ++ [48] = _
        rw [show k + 1 - 1 = k by omega, ← List.replicate_succ']
      rw [h3]
      show List.replicate (k + 1) 48 ++ _ = List.replicate (k + 1 + 1 - 1) 48 ++ _
      rw [show k + 1 + 1 - 1 = k + 1 by omega]
    · have e2 : numL r = numL (r / 10) ++ numL (r % 10) := by
        rw [← numL_snoc (by omega) hd, Nat.div_add_mod' r 10]
      rw [e2, List.length_append, numL_digit hd, List.append_assoc]
      rw [show k + 1 + 1 - ((numL (r / 10)).length + [48 + r % 10].length) = k + 1 - (numL (r / 10)).length by show k + 1 + 1 - (_ + 1) = _; omega]
theorem numL_range {n c : Nat} (h : c ∈ numL n) : 48 ≤ c ∧ c ≤ 57 := by
  unfold numL at h
  obtain ⟨ch, hch, e⟩ := List.mem_map.mp h
  have r := digit_range (Nat.isDigit_of_mem_toDigits (by decide) (by decide) hch)
  rw [← e]
  exact r
theorem zfill_tl {n k : Nat} (h : (numL n).length ≤ k) : tl (Txt.zfill (nt n) (k : Int)) = padL k n := by
  unfold Txt.zfill
  rw [len_nt]
  split
  · rename_i hk
    have e : (numL n).length = k := by omega
    unfold padL
    rw [e, Nat.sub_self, tl_nt]
    rfl
  · unfold zfilled
    have hc : ∀ c, (nt n).cps[0]? = some c → c ≠ 43 ∧ c ≠ 45 := by
      intro c hc
      have h1 : c ∈ numL n := by
        rw [← tl_nt]
        rw [← Array.getElem?_toList] at hc
        exact List.mem_of_getElem? hc
      have := numL_range h1
      omega
    have hp : tl (Builtin.Str.padded (nt n) (Int.toNat (k : Int) - (numL n).length) 0 48) = padL k n := by
      unfold Builtin.Str.padded padL
      show (Array.replicate (k - (numL n).length) 48 ++ (nt n).cps ++ Array.replicate 0 48).toList = _
      rw [Array.toList_append, Array.toList_append, cps_nt]
      simp
    split
    · rename_i e
      exact absurd rfl (hc _ e).1
    · rename_i e
      exact absurd rfl (hc _ e).2
    · exact hp
theorem read_nt {n : Nat} (h : (nt n).length ≤ 4300) : PySem.intText? (nt n) = some (n : Int) := by
  have hd : PySem.NumText.AllDigits (nt n).cps.toList := by
    intro c hc
    rw [cps_nt] at hc
    exact numL_range hc
  have hne : (nt n).cps.toList ≠ [] := by
    rw [cps_nt]
    exact numL_ne n
  have e := PySem.intText_digits hd hne h
  rw [cps_nt] at e
  rw [e]
  unfold numL
  rw [PySem.W.KIN.val_back]
theorem ascii_nt (n : Nat) : Txt.isascii (nt n) = true := by
  unfold Txt.isascii
  rw [← Array.all_toList, List.all_eq_true]
  intro c hc
  rw [cps_nt] at hc
  have := numL_range hc
  exact decide_eq_true (by omega)
theorem uni_digit : ∀ d : Nat, d < 10 → Unicode.isDigit (48 + d) = true := by decide +kernel
theorem digit_nt (n : Nat) : Txt.isdigit (nt n) = true := by
  unfold Txt.isdigit
  rw [Bool.and_eq_true]
  refine ⟨decide_eq_true ?_, ?_⟩
  · rw [len_nt]
    exact List.length_pos_iff.mpr (numL_ne n)
  · rw [← Array.all_toList, List.all_eq_true]
    intro c hc
    rw [cps_nt] at hc
    have h := numL_range hc
    have := uni_digit (c - 48) (by omega)
    rw [show 48 + (c - 48) = c by omega] at this
    exact this
theorem numL_head : ∀ n : Nat, 0 < n → ∃ c r, numL n = c :: r ∧ c ≠ 48 := by
  intro n
  induction n using Nat.strongRecOn with
  | _ n ih =>
    intro hn
    by_cases h : n < 10
    · exact ⟨48 + n, [], numL_digit h, by omega⟩
    · obtain ⟨c, r, e, hc⟩ := ih (n / 10) (by omega) (by omega)
      refine ⟨c, r ++ numL (n % 10), ?_, hc⟩
      have h2 := numL_snoc (n := n / 10) (d := n % 10) (by omega) (Nat.mod_lt _ (by decide))
      rw [show n / 10 * 10 + n % 10 = n by omega, e] at h2
      exact h2
theorem nt_zero : nt 0 = Str.ofString "0" := by decide +kernel
theorem starts_nt {n : Nat} (hn : 0 < n) : Txt.startswith (nt n) (Str.ofString "0") = false := by
  unfold Txt.startswith
  obtain ⟨c, r, e, hc⟩ := numL_head n hn
  rw [Bool.and_eq_false_iff]
  right
  unfold Builtin.Str.subAt
  rw [show (Str.ofString "0") = ⟨#[48]⟩ by decide +kernel]
  rw [beq_eq_false_iff_ne]
  intro z
  have z2 := congrArg Array.toList z
  rw [Array.toList_extract] at z2
  rw [cps_nt, e] at z2
  simp at z2
  have z3 : List.take 1 (c :: r) = [48] := z2
  simp at z3
  exact hc z3
/-- the text of an amount -/
def amTxt (q : Rat) : Str := if q.den = 1 then nt q.num.toNat else nt q.num.toNat ++ Str.ofString "/" ++ nt q.den
theorem slash_nt (n : Nat) : 47 ∉ tl (nt n) := fun h => by rw [tl_nt] at h; have := numL_range h; omega
theorem slash : Str.ofString "/" = ⟨#[47]⟩ := by decide +kernel
theorem part_nt (n : Nat) : Txt.partition (nt n) (Str.ofString "/") = (nt n, Str.empty, Str.empty) := partition_none (y := Str.ofString "/") (s := 47) (S := []) (by rw [slash]) (slash_nt n)
theorem part_am (n d : Nat) : Txt.partition (nt n ++ Str.ofString "/" ++ nt d) (Str.ofString "/") = (nt n, Str.ofString "/", nt d) := partition_app (y := Str.ofString "/") (s := 47) (S := []) (by rw [slash]) (slash_nt n)
theorem joinL_nil : ∀ l : List (List Nat), joinL [] l = l.flatten
  | [] => rfl
  | [p] => by simp [joinL]
  | p :: q :: r => by
    show p ++ ([] ++ joinL [] (q :: r)) = _
    rw [joinL_nil (q :: r)]
    simp
theorem tl_join0 (parts : List Str) : tl (Txt.join Str.empty parts) = (parts.map tl).flatten := by
  rw [join_eq, tl_join]
  exact joinL_nil _
theorem len_sum : ∀ parts : List Str, (parts.map (·.length)).sum = (parts.map tl).flatten.length
  | [] => rfl
  | p :: r => by
    show p.length + (r.map (·.length)).sum = (tl p ++ (r.map tl).flatten).length
    rw [List.length_append, len_sum r]
    congr 1
theorem bits_lt {n b : Nat} (h : n < 2 ^ b) : n < 10 ^ b := Nat.lt_of_lt_of_le h (Nat.pow_le_pow_left (by decide) b)
theorem log_lt {n b : Nat} (hb : 0 < b) (h : n < 2 ^ b) : n.log2 < b := PySem.Flt.log2_lt_of hb h
end Yk

set_option maxHeartbeats 1000000
namespace Yk
open PySem PySem.Spec PyProof.Rows L2

section
variable {P : Program} {w : World} {K : PySem.W.Frag} {mg : Str → Option Value} {base : Heap} {f : Addr} {fd : FuncData}
abbrev s_added : Stmt := top 9
theorem c_added : FnScope ["first", "second", "top", "bottom", "other_top", "other_bottom", "common", "rest", "new_top", "shared"] ["first", "second"] (defScope s_added) := ⟨rfl, rfl, rfl, by decide +kernel, rfl, by decide +kernel, by decide +kernel⟩
theorem f_added (F : FunD K "_added" "_added" (defArgs s_added) (defBody s_added) (defScope s_added) [] [] f fd) (hm : mg "_added" = some (.ref f)) (T : Bg mg) : Fn P w K mg base 1 "_added" (spAdded K) := by
  refine fn_def F hm c_added (fun vs H Q E h => ?_) (fun _ _ _ _ _ _ us hl => match us, hl with | [_, _], _ => rfl) (fun cdv A outer s H vs Q E hr h => ?_)
  · obtain ⟨v1, v2, p, q, rfl, _⟩ := h
    rfl
  · obtain ⟨v1, v2, p, q, rfl, ⟨a1, rfl, h1⟩, ⟨a2, rfl, h2⟩, z1, z2, k⟩ := h
    have nd := c_added.nd
    refine ⟨_, (pss_cons (ps_asg (pv 0) (pg_tup rfl (pgs_cons (pg_name (i := 2) nd rfl (by first | exact Or.inl rfl | exact Or.inr rfl)) (pgs_cons (pg_name (i := 3) nd rfl (by first | exact Or.inl rfl | exact Or.inr rfl)) pgs_nil))))
      (pss_cons (ps_asg (pv 1) (pg_tup rfl (pgs_cons (pg_name (i := 4) nd rfl (by first | exact Or.inl rfl | exact Or.inr rfl)) (pgs_cons (pg_name (i := 5) nd rfl (by first | exact Or.inl rfl | exact Or.inr rfl)) pgs_nil))))
      (pss_cons (ps_set (i := 6) nd rfl (by first | exact Or.inl rfl | exact Or.inr rfl) (pe_callBfun cr_gcd (by rfl) T.gcd (pa_cons (pv 3) (pa_cons (pv 5) pa_nil))))
      (pss_cons (ps_set (i := 7) nd rfl (by first | exact Or.inl rfl | exact Or.inr rfl) (pe_op op_fdivW (pv 3) (pv 6)))
      (pss_cons (ps_set (i := 8) nd rfl (by first | exact Or.inl rfl | exact Or.inr rfl) (pe_op op_add (pe_op op_mulW (pv 2) (pe_op op_fdivW (pv 5) (pv 6))) (pe_op op_mulW (pv 4) (pv 7))))
      (pss_cons (ps_set (i := 9) nd rfl (by first | exact Or.inl rfl | exact Or.inr rfl) (pe_callBfun cr_gcd (by rfl) T.gcd (pa_cons (pv 8) (pa_cons (pv 6) pa_nil))))
      (pss_one (ps_ret (pe_tup (pa_cons (pe_op op_fdivW (pv 8) (pv 9)) (pa_cons (pe_op op_mulW (pv 7) (pe_op op_fdivW (pv 5) (pv 9))) pa_nil))))))))))), ?_⟩
    show (_ : TS) _ [some _, some _, none, none, none, none, none, none, none, none] _
    try dsimp only [cxOf, Cx.nox]
    have g0 : 0 < Nat.gcd p.den q.den := Nat.gcd_pos_of_pos_left _ p.den_pos
    have gl : Nat.gcd p.den q.den < 2 ^ 4000 := Nat.lt_of_le_of_lt (Nat.gcd_le_left _ p.den_pos) z1.2
    have e1 : (p.den : Int).natAbs < 2 ^ 4000 := z1.2
    have e2 : (q.den : Int).natAbs < 2 ^ 4000 := z2.2
    have d1 : ∀ i : Int, CDivW i ((Nat.gcd p.den q.den : Nat) : Int) := fun i => cdiv g0 gl (by decide) (by decide)
    have m1 : CMulW p.num ((q.den : Int) / ((Nat.gcd p.den q.den : Nat) : Int)) := cmul z1.1 (dlt e2) (by decide) (by decide) (by decide)
    have m2 : CMulW q.num ((p.den : Int) / ((Nat.gcd p.den q.den : Nat) : Int)) := cmul z2.1 (dlt e1) (by decide) (by decide) (by decide)
    have s0 : ∀ n : Nat, 0 < Nat.gcd n (Nat.gcd p.den q.den) := fun n => Nat.gcd_pos_of_pos_right _ g0
    have sl : ∀ n : Nat, Nat.gcd n (Nat.gcd p.den q.den) < 2 ^ 4000 := fun n => Nat.lt_of_le_of_lt (Nat.gcd_le_right _ g0) gl
    have d2 : ∀ (i : Int) (n : Nat), CDivW i ((Nat.gcd n (Nat.gcd p.den q.den) : Nat) : Int) := fun i n => cdiv (s0 n) (sl n) (by decide) (by decide)
    have m3 : ∀ n : Nat, CMulW ((p.den : Int) / ((Nat.gcd p.den q.den : Nat) : Int)) ((q.den : Int) / ((Nat.gcd n (Nat.gcd p.den q.den) : Nat) : Int)) := fun n => cmul (dlt e1) (dlt e2) (by decide) (by decide) (by decide)
    walk_at "go"
    refine r_I (d1 _) ?_
    walk_at "go"
    refine r_I (d1 _) ?_
    walk_at "go"
    refine r_I (d2 _ _) ?_
    walk_at "go"
    refine r_I (d2 _ _) ?_
    walk_at "go"
    refine r_I (m3 _) ?_
    walk_at "go"
    refine k _ _ (Ext.refl.new (by assumption)) ⟨_, rfl, ?_⟩
    obtain ⟨x1, x2⟩ := add_int p q
    rw [x1, x2]
    exact tupS
end
end Yk

set_option maxHeartbeats 1000000
namespace Yk
open PySem PySem.Spec PyProof.Rows L2

section
variable {P : Program} {w : World} {K : PySem.W.Frag} {mg : Str → Option Value} {base : Heap} {f : Addr} {fd : FuncData}
def spProd (K : PySem.W.Frag) : Sp := fun vs H Q _ => ∃ p q : Rat, vs = [.int p.num, .int (p.den : Int), .int q.num, .int (q.den : Int)] ∧ Sz 4000 p ∧ Sz 4000 q ∧ RetAm K H Q (p * q)
abbrev s_product : Stmt := top 12
theorem c_product : FnScope ["top", "bottom", "other_top", "other_bottom", "left", "right"] ["top", "bottom", "other_top", "other_bottom"] (defScope s_product) := ⟨rfl, rfl, rfl, by decide +kernel, rfl, by decide +kernel, by decide +kernel⟩
theorem f_product (F : FunD K "_product" "_product" (defArgs s_product) (defBody s_product) (defScope s_product) [] [] f fd) (hm : mg "_product" = some (.ref f)) (T : Bg mg) : Fn P w K mg base 1 "_product" (spProd K) := by
  refine fn_def F hm c_product (fun vs H Q E h => ?_) (fun _ _ _ _ _ _ us hl => match us, hl with | [_, _, _, _], _ => rfl) (fun cdv A outer s H vs Q E hr h => ?_)
  · obtain ⟨p, q, rfl, _⟩ := h
    rfl
  · obtain ⟨p, q, rfl, z1, z2, k⟩ := h
    have nd := c_product.nd
    refine ⟨_, (pss_cons (ps_set (i := 4) nd rfl (by first | exact Or.inl rfl | exact Or.inr rfl) (pe_callBfun cr_gcd (by rfl) T.gcd (pa_cons (pv 0) (pa_cons (pv 3) pa_nil))))
      (pss_cons (ps_set (i := 5) nd rfl (by first | exact Or.inl rfl | exact Or.inr rfl) (pe_callBfun cr_gcd (by rfl) T.gcd (pa_cons (pv 2) (pa_cons (pv 1) pa_nil))))
      (pss_one (ps_ret (pe_tup (pa_cons (pe_op op_mulW (pe_op op_fdivW (pv 0) (pv 4)) (pe_op op_fdivW (pv 2) (pv 5))) (pa_cons (pe_op op_mulW (pe_op op_fdivW (pv 1) (pv 5)) (pe_op op_fdivW (pv 3) (pv 4))) pa_nil))))))), ?_⟩
    show (_ : TS) _ [some _, some _, some _, some _, none, none] _
    try dsimp only [cxOf, Cx.nox]
    have g1 : 0 < Nat.gcd p.num.natAbs q.den := Nat.gcd_pos_of_pos_right _ q.den_pos
    have g2 : 0 < Nat.gcd q.num.natAbs p.den := Nat.gcd_pos_of_pos_right _ p.den_pos
    have l1 : Nat.gcd p.num.natAbs q.den < 2 ^ 4000 := Nat.lt_of_le_of_lt (Nat.gcd_le_right _ q.den_pos) z2.2
    have l2 : Nat.gcd q.num.natAbs p.den < 2 ^ 4000 := Nat.lt_of_le_of_lt (Nat.gcd_le_right _ p.den_pos) z1.2
    have e1 : (p.den : Int).natAbs < 2 ^ 4000 := z1.2
    have e2 : (q.den : Int).natAbs < 2 ^ 4000 := z2.2
    have d1 : ∀ i : Int, CDivW i ((Nat.gcd p.num.natAbs q.den : Nat) : Int) := fun i => cdiv g1 l1 (by decide) (by decide)
    have d2 : ∀ i : Int, CDivW i ((Nat.gcd q.num.natAbs p.den : Nat) : Int) := fun i => cdiv g2 l2 (by decide) (by decide)
    have m1 : CMulW (p.num / ((Nat.gcd p.num.natAbs q.den : Nat) : Int)) (q.num / ((Nat.gcd q.num.natAbs p.den : Nat) : Int)) := cmul (dlt z1.1) (dlt z2.1) (by decide) (by decide) (by decide)
    have m2 : CMulW ((p.den : Int) / ((Nat.gcd q.num.natAbs p.den : Nat) : Int)) ((q.den : Int) / ((Nat.gcd p.num.natAbs q.den : Nat) : Int)) := cmul (dlt e1) (dlt e2) (by decide) (by decide) (by decide)
    walk_at "go"
    refine r_I (d1 _) ?_
    walk_at "go"
    refine r_I (d2 _) ?_
    walk_at "go"
    refine r_I (d2 _) ?_
    walk_at "go"
    refine r_I (d1 _) ?_
    walk_at "go"
    refine k _ _ (Ext.refl.new (by assumption)) ⟨_, rfl, ?_⟩
    obtain ⟨x1, x2⟩ := mul_int' p q
    rw [x1, x2]
    exact tupS
def spTimes (K : PySem.W.Frag) : Sp := fun vs H Q _ => ∃ v1 v2 p q, vs = [v1, v2] ∧ Am K H v1 p ∧ Am K H v2 q ∧ Sz 4000 p ∧ Sz 4000 q ∧ RetAm K H Q (p * q)
abbrev s_times : Stmt := top 10
theorem c_times : FnScope ["first", "second"] ["first", "second"] (defScope s_times) := ⟨rfl, rfl, rfl, by decide +kernel, rfl, by decide +kernel, by decide +kernel⟩
theorem f_times (F : FunD K "times" "times" (defArgs s_times) (defBody s_times) (defScope s_times) [] [] f fd) (hm : mg "times" = some (.ref f)) (F_product : Fn P w K mg base 1 "_product" (spProd K)) : Fn P w K mg base 2 "times" (spTimes K) := by
  refine fn_def F hm c_times (fun vs H Q E h => ?_) (fun _ _ _ _ _ _ us hl => match us, hl with | [_, _], _ => rfl) (fun cdv A outer s H vs Q E hr h => ?_)
  · obtain ⟨v1, v2, p, q, rfl, _⟩ := h
    rfl
  · obtain ⟨v1, v2, p, q, rfl, ⟨a1, rfl, h1⟩, ⟨a2, rfl, h2⟩, z1, z2, k⟩ := h
    have nd := c_times.nd
    refine ⟨_, (pss_one (ps_ret (pe_fn F_product (hr.mono (by decide)) (pa_cons (pe_ix ix_tup (pv 0) pe_int (fun _ _ => rfl)) (pa_cons (pe_ix ix_tup (pv 0) pe_int (fun _ _ => rfl)) (pa_cons (pe_ix ix_tup (pv 1) pe_int (fun _ _ => rfl)) (pa_cons (pe_ix ix_tup (pv 1) pe_int (fun _ _ => rfl)) pa_nil))))))), ?_⟩
    show (_ : TS) _ [some _, some _] _
    try dsimp only [cxOf, Cx.nox]
    walk_at "go"
    exact ⟨p, q, rfl, z1, z2, k⟩
def spOver (K : PySem.W.Frag) : Sp := fun vs H Q _ => ∃ v1 v2 p q, vs = [v1, v2] ∧ Am K H v1 p ∧ Am K H v2 q ∧ 0 < q ∧ Sz 4000 p ∧ Sz 4000 q ∧ RetAm K H Q (p / q)
def cmpQ (p q : Rat) : Int := if p < q then -1 else if q < p then 1 else 0
def spCompare (K : PySem.W.Frag) : Sp := fun vs H Q _ => ∃ v1 v2 p q, vs = [v1, v2] ∧ Am K H v1 p ∧ Am K H v2 q ∧ Sz 4000 p ∧ Sz 4000 q ∧ Q (.int (cmpQ p q)) H
abbrev s_compare : Stmt := top 13
theorem c_compare : FnScope ["first", "second", "left", "right"] ["first", "second"] (defScope s_compare) := ⟨rfl, rfl, rfl, by decide +kernel, rfl, by decide +kernel, by decide +kernel⟩
theorem f_compare (F : FunD K "compare" "compare" (defArgs s_compare) (defBody s_compare) (defScope s_compare) [] [] f fd) (hm : mg "compare" = some (.ref f))  : Fn P w K mg base 1 "compare" (spCompare K) := by
  refine fn_def F hm c_compare (fun vs H Q E h => ?_) (fun _ _ _ _ _ _ us hl => match us, hl with | [_, _], _ => rfl) (fun cdv A outer s H vs Q E hr h => ?_)
  · obtain ⟨v1, v2, p, q, rfl, _⟩ := h
    rfl
  · obtain ⟨v1, v2, p, q, rfl, ⟨a1, rfl, h1⟩, ⟨a2, rfl, h2⟩, z1, z2, k⟩ := h
    have nd := c_compare.nd
    refine ⟨_, (pss_cons (ps_set (i := 2) nd rfl (by first | exact Or.inl rfl | exact Or.inr rfl) (pe_op op_mulW (pe_ix ix_tup (pv 0) pe_int (fun _ _ => rfl)) (pe_ix ix_tup (pv 1) pe_int (fun _ _ => rfl))))
      (pss_cons (ps_set (i := 3) nd rfl (by first | exact Or.inl rfl | exact Or.inr rfl) (pe_op op_mulW (pe_ix ix_tup (pv 1) pe_int (fun _ _ => rfl)) (pe_ix ix_tup (pv 0) pe_int (fun _ _ => rfl))))
      (pss_cons (ps_if (pt_cmpR op_lt (pv 2) (pv 3) (nomark _))
        (pss_one (ps_ret (pe_un un_neg pe_int)))
        pss_nil)
      (pss_cons (ps_if (pt_cmpR op_gt (pv 2) (pv 3) (nomark _))
        (pss_one (ps_ret pe_int))
        pss_nil)
      (pss_one (ps_ret pe_int)))))), ?_⟩
    show (_ : TS) _ [some _, some _, none, none] _
    try dsimp only [cxOf, Cx.nox]
    have e1 : (p.den : Int).natAbs < 2 ^ 4000 := z1.2
    have e2 : (q.den : Int).natAbs < 2 ^ 4000 := z2.2
    have m1 : CMulW p.num (q.den : Int) := cmul z1.1 e2 (by decide) (by decide) (by decide)
    have m2 : CMulW q.num (p.den : Int) := cmul z2.1 e1 (by decide) (by decide) (by decide)
    walk_at "go"
    refine r_dec (fun hlt => ?_) (fun hlt => ?_)
    · walk_at "go"
      unfold cmpQ at k
      rw [if_pos ((Rat.lt_iff p q).mpr hlt)] at k
      exact k
    · walk_at "go"
      have n1 : ¬ p < q := fun z => hlt ((Rat.lt_iff p q).mp z)
      refine r_dec (fun hgt => ?_) (fun hgt => ?_)
      · walk_at "go"
        unfold cmpQ at k
        rw [if_neg n1, if_pos ((Rat.lt_iff q p).mpr hgt)] at k
        exact k
      · walk_at "go"
        have n2 : ¬ q < p := fun z => hgt ((Rat.lt_iff q p).mp z)
        unfold cmpQ at k
        rw [if_neg n1, if_neg n2] at k
        exact k
def spMinus (K : PySem.W.Frag) : Sp := fun vs H Q _ => ∃ v1 v2 p q, vs = [v1, v2] ∧ Am K H v1 p ∧ Am K H v2 q ∧ q ≤ p ∧ Sz 4000 p ∧ Sz 4000 q ∧ RetAm K H Q (p - q)
abbrev s_minus : Stmt := top 8
theorem c_minus : FnScope ["first", "second"] ["first", "second"] (defScope s_minus) := ⟨rfl, rfl, rfl, by decide +kernel, rfl, by decide +kernel, by decide +kernel⟩
theorem f_minus (F : FunD K "minus" "minus" (defArgs s_minus) (defBody s_minus) (defScope s_minus) [] [] f fd) (hm : mg "minus" = some (.ref f)) (Fcompare : Fn P w K mg base 1 "compare" (spCompare K)) (F_added : Fn P w K mg base 1 "_added" (spAdded K)) : Fn P w K mg base 2 "minus" (spMinus K) := by
  refine fn_def F hm c_minus (fun vs H Q E h => ?_) (fun _ _ _ _ _ _ us hl => match us, hl with | [_, _], _ => rfl) (fun cdv A outer s H vs Q E hr h => ?_)
  · obtain ⟨v1, v2, p, q, rfl, _⟩ := h
    rfl
  · obtain ⟨v1, v2, p, q, rfl, ⟨a1, rfl, h1⟩, ⟨a2, rfl, h2⟩, hle, z1, z2, k⟩ := h
    have nd := c_minus.nd
    refine ⟨_, (pss_cons (ps_if (pt_cmpR op_lt (pe_fn Fcompare (hr.mono (by decide)) (pa_cons (pv 0) (pa_cons (pv 1) pa_nil))) pe_int (nomark _))
        (pss_one ps_never)
        pss_nil)
      (pss_one (ps_ret (pe_fn F_added (hr.mono (by decide)) (pa_cons (pv 0) (pa_cons (pe_tup (pa_cons (pe_un un_neg (pe_ix ix_tup (pv 1) pe_int (fun _ _ => rfl))) (pa_cons (pe_ix ix_tup (pv 1) pe_int (fun _ _ => rfl)) pa_nil))) pa_nil)))))), ?_⟩
    show (_ : TS) _ [some _, some _] _
    try dsimp only [cxOf, Cx.nox]
    walk_at "go"
    refine ⟨_, _, p, q, rfl, ⟨_, rfl, h1⟩, ⟨_, rfl, h2⟩, z1, z2, ?_⟩
    walk_at "go"
    have n1 : ¬ cmpQ p q < 0 := by
      unfold cmpQ
      rw [if_neg (Rat.not_lt.mpr hle)]
      split <;> omega
    refine r_dec (fun hlt => absurd hlt n1) (fun _ => ?_)
    walk_at "go"
    refine ⟨_, _, p, -q, rfl, ⟨_, rfl, tupN h1 (by assumption)⟩, ⟨_, rfl, ?_⟩, z1, sz_neg z2, fun v H' e a => ?_⟩
    · rw [Rat.neg_num]
      exact tupS
    · refine k v H' ((Ext.refl.new (by assumption)).trans e) ?_
      rw [Rat.sub_eq_add_neg]
      exact a
abbrev s_over : Stmt := top 11
theorem c_over : FnScope ["first", "second"] ["first", "second"] (defScope s_over) := ⟨rfl, rfl, rfl, by decide +kernel, rfl, by decide +kernel, by decide +kernel⟩
theorem f_over (F : FunD K "over" "over" (defArgs s_over) (defBody s_over) (defScope s_over) [] [] f fd) (hm : mg "over" = some (.ref f)) (TZ : ∃ z, mg "ZERO" = some (.ref z) ∧ ∀ H, SqT K H z [.int 0, .int 1]) (F_product : Fn P w K mg base 1 "_product" (spProd K)) : Fn P w K mg base 2 "over" (spOver K) := by
  refine fn_def F hm c_over (fun vs H Q E h => ?_) (fun _ _ _ _ _ _ us hl => match us, hl with | [_, _], _ => rfl) (fun cdv A outer s H vs Q E hr h => ?_)
  · obtain ⟨v1, v2, p, q, rfl, _⟩ := h
    rfl
  · obtain ⟨v1, v2, p, q, rfl, ⟨a1, rfl, h1⟩, ⟨a2, rfl, h2⟩, hq, z1, z2, k⟩ := h
    have nd := c_over.nd
    obtain ⟨z, mz, TZ⟩ := TZ
    refine ⟨_, (pss_cons (ps_if (pt_cmpR (op_eqD hr.units) (pv 1) (pe_glob (v := .ref z) rfl mz rfl) (nomark _))
        (pss_one ps_never)
        pss_nil)
      (pss_one (ps_ret (pe_fn F_product (hr.mono (by decide)) (pa_cons (pe_ix ix_tup (pv 0) pe_int (fun _ _ => rfl)) (pa_cons (pe_ix ix_tup (pv 0) pe_int (fun _ _ => rfl)) (pa_cons (pe_ix ix_tup (pv 1) pe_int (fun _ _ => rfl)) (pa_cons (pe_ix ix_tup (pv 1) pe_int (fun _ _ => rfl)) pa_nil)))))))), ?_⟩
    show (_ : TS) _ [some _, some _] _
    try dsimp only [cxOf, Cx.nox]
    walk_at "go"
    refine ⟨_, _, .tup (h2) (.cons (.int _) (.cons (.int _) .nil)), .tup (TZ _) (.cons (.int _) (.cons (.int _) .nil)), rfl, rfl, ?_⟩
    walk_at "go"
    obtain ⟨i1, i2⟩ := inv_parts hq
    have hn : ¬ q.num = 0 := by have := num_pos' hq; omega
    have en : PyData.eqv (PyData.tuple [PyData.int q.num, PyData.int ↑q.den]) (PyData.tuple [PyData.int 0, PyData.int 1]) = false := by
      simp [PyData.eqv, PyData.eqvAll, hn]
    rw [en]
    refine iteF ?_
    walk_at "go"
    refine ⟨p, q⁻¹, ?_, z1, sz_inv z2 hq, fun v H' e a => k v H' e ?_⟩
    · rw [i1, i2]
    · rw [Rat.div_def]
      exact a
/-- the sum of a row, from the left -/
def sumQ (qs : List Rat) : Rat := qs.foldl (· + ·) 0
theorem sumQ_take {qs : List Rat} {i : Nat} {q : Rat} (h : qs[i]? = some q) : sumQ (qs.take (i + 1)) = sumQ (qs.take i) + q := by
  obtain ⟨hl, e⟩ := List.getElem?_eq_some_iff.mp h
  unfold sumQ
  rw [← List.take_append_getElem hl, List.foldl_append, e]
  rfl
theorem sumQ_sz {m : Nat} : ∀ {qs : List Rat} (i : Nat), (∀ q ∈ qs, Sz m q) → i ≤ qs.length → Sz (1 + i * (m + 1)) (sumQ (qs.take i))
  | qs, 0, _, _ => by
    rw [List.take_zero]
    refine ⟨Nat.two_pow_pos _, ?_⟩
    rw [Nat.zero_mul]
    decide
  | qs, i + 1, h, hi => by
    have hq : qs[i]? = some qs[i] := List.getElem?_eq_getElem hi
    rw [sumQ_take hq]
    have h1 := sumQ_sz i h (by omega)
    have h2 := h qs[i] (List.getElem_mem hi)
    refine (sz_add h1 h2).mono ?_
    rw [Nat.add_mul]
    omega
def spPlusT (K : PySem.W.Frag) : Sp := fun vs H Q _ => ∃ t xs qs m, vs = [V.ref t] ∧ SqT K H t xs ∧ Ams K H xs qs ∧ (∀ q ∈ qs, Sz m q) ∧ m ≤ 4000 ∧ 1 + qs.length * (m + 1) ≤ 4000 ∧ RetAm K H Q (sumQ qs)
def spPlus (K : PySem.W.Frag) : Sp := fun vs H Q _ => ∃ qs m, Ams K H vs qs ∧ (∀ q ∈ qs, Sz m q) ∧ m ≤ 4000 ∧ 1 + qs.length * (m + 1) ≤ 4000 ∧ RetAm K H Q (sumQ qs)
abbrev s_plus : Stmt := top 7
theorem c_plus : FnScope ["amounts", "found", "further"] ["amounts"] (defScope s_plus) := ⟨rfl, rfl, rfl, by decide +kernel, rfl, by decide +kernel, by decide +kernel⟩
theorem f_plus (F : FunD K "plus" "plus" (defArgs s_plus) (defBody s_plus) (defScope s_plus) [] [] f fd) (hm : mg "plus" = some (.ref f)) (TZ : ∃ z, mg "ZERO" = some (.ref z) ∧ ∀ H, SqT K H z [.int 0, .int 1]) (F_added : Fn P w K mg base 1 "_added" (spAdded K)) : Fn P w K mg base 2 "plus" (spPlus K) := by
  refine fn_star (ps := []) (pv := "amounts") (sp := spPlusT K) F hm c_plus (fun _ _ _ _ _ _ us rest hl => match us, rest, hl with | [], [], _ => rfl | [], _ :: _, _ => rfl) (fun cdv A outer s H vs Q E hr h => ?_) ?himp
  case himp =>
    exact fun vs H Q E ⟨qs, m, h1, h2, h3, h4, k⟩ => ⟨[], vs, rfl, rfl, Nat.le_trans (by rw [h1.1]; have := Nat.le_mul_of_pos_right qs.length (show 0 < m + 1 by omega); omega : vs.length ≤ 4000) (by decide), fun p hp => ⟨p, vs, qs, m, rfl, tupS, h1.x0 (Ext.refl.new hp), h2, h3, h4, fun v H' e a => k v H' ((Ext.refl.new hp).trans e) a⟩⟩
  · obtain ⟨t, xs, qs, m, rfl, ht, ha, hz, hm, hl, k⟩ := h
    have nd := c_plus.nd
    obtain ⟨z, mz, TZ⟩ := TZ
    refine ⟨_, (pss_cons (ps_set (i := 1) nd rfl (by first | exact Or.inl rfl | exact Or.inr rfl) (pe_glob (v := .ref z) rfl mz rfl))
      (pss_cons (ps_for PassesOwn.never rfl (pi_tup (pv 0)) (pg_name (i := 2) nd rfl (by first | exact Or.inl rfl | exact Or.inr rfl))
        (pss_one (ps_set (i := 1) nd rfl (by first | exact Or.inl rfl | exact Or.inr rfl) (pe_fn F_added (hr.mono (by decide)) (pa_cons (pv 1) (pa_cons (pv 2) pa_nil))))))
      (pss_one (ps_ret (pv 1))))), ?_⟩
    show (_ : TS) _ [some _, none, none] _
    try dsimp only [cxOf, Cx.nox]
    walk_at "go"
    refine r_forT rfl ht (fun i σ H1 => Ext [] H H1 ∧ ∃ fv u, σ = [some (.ref t), some fv, u] ∧ Am K H1 fv (sumQ (qs.take i))) ⟨Ext.refl, _, _, rfl, ⟨z, rfl, TZ _⟩⟩ (fun i σ H1 _ h => tup0 h.1 ht) ?_ ?_
    · rintro i x σ H1 hx ⟨e1, fv, u, rfl, hf⟩
      have hi : i < qs.length := by rw [← ha.1]; exact (List.getElem?_eq_some_iff.mp hx).1
      have hq : qs[i]? = some qs[i] := List.getElem?_eq_getElem hi
      have hb := sumQ_sz i hz (by omega)
      have hsz : 1 + i * (m + 1) ≤ 4000 := Nat.le_trans (by have := Nat.mul_le_mul_right (m + 1) (Nat.le_of_lt hi); omega) hl
      walk_at "go"
      refine ⟨_, _, _, qs[i], rfl, hf, (ha.2 i x _ hx hq).x0 e1, hb.mono hsz, (hz _ (List.getElem_mem hi)).mono hm, fun v H' e a => ?_⟩
      walk_at "go"
      refine ⟨e1.trans e, _, _, rfl, ?_⟩
      rw [sumQ_take hq]
      exact a
    · rintro σ H1 ⟨e1, fv, u, rfl, hf⟩
      walk_at "go"
      rw [ha.1, List.take_length] at hf
      exact k _ _ e1 hf
end
end Yk

set_option maxHeartbeats 1000000
namespace Yk
open PySem PySem.Spec PyProof.Rows L2

section
variable {P : Program} {w : World} {K : PySem.W.Frag} {mg : Str → Option Value} {base : Heap} {f : Addr} {fd : FuncData}
def spMinT (F : Rat → List Rat → Rat) (K : PySem.W.Frag) : Sp := fun vs H Q _ => ∃ v0 q0 t xs qs, vs = [v0, V.ref t] ∧ Am K H v0 q0 ∧ Sz 4000 q0 ∧ SqT K H t xs ∧ Ams K H xs qs ∧ (∀ q ∈ qs, Sz 4000 q) ∧ RetAm K H Q (F q0 qs)
def spMin (F : Rat → List Rat → Rat) (K : PySem.W.Frag) : Sp := fun vs H Q _ => ∃ q0 qs, Ams K H vs (q0 :: qs) ∧ (∀ q ∈ q0 :: qs, Sz 4000 q) ∧ qs.length ≤ 4000 ∧ RetAm K H Q (F q0 qs)
theorem spMin_imp {F : Rat → List Rat → Rat} : ∀ vs H Q E, spMin F K vs H Q E → ∃ ws rest, vs = ws ++ rest ∧ ws.length = (["first"] : List Str).length ∧ rest.length ≤ sizeLine ∧ ∀ p, H p = none → spMinT F K (ws ++ [V.ref p]) (upd H p (.tup rest)) Q E := by
  rintro vs H Q E ⟨q0, qs, h1, h2, h3, k⟩
  cases vs with
  | nil => exact absurd h1.1 (by simp)
  | cons v0 rest =>
    have hl : rest.length = qs.length := by simpa using h1.1
    have h4 : Ams K H rest qs := ⟨hl, fun i v q a b => h1.2 (i + 1) v q (by simpa using a) (by simpa using b)⟩
    refine ⟨[v0], rest, rfl, rfl, Nat.le_trans (by omega : rest.length ≤ 4000) (by decide), fun p hp => ⟨v0, q0, p, rest, qs, rfl, (h1.2 0 v0 q0 rfl rfl).x0 (Ext.refl.new hp), h2 q0 List.mem_cons_self, tupS, h4.x0 (Ext.refl.new hp), fun q hq => h2 q (List.mem_cons_of_mem _ hq), fun v H' e a => k v H' ((Ext.refl.new hp).trans e) a⟩⟩
theorem cmp_lt (p q : Rat) : cmpQ p q < 0 ↔ p < q := by
  unfold cmpQ
  by_cases h : p < q
  · rw [if_pos h]; exact ⟨fun _ => h, fun _ => by decide⟩
  · rw [if_neg h]
    refine ⟨fun z => ?_, fun z => absurd z h⟩
    split at z <;> omega
theorem cmp_gt (p q : Rat) : 0 < cmpQ p q ↔ q < p := by
  unfold cmpQ
  by_cases h : p < q
  · rw [if_pos h]
    exact ⟨fun z => by omega, fun z => absurd (Rat.le_of_lt h) (Rat.not_le.mpr z)⟩
  · rw [if_neg h]
    by_cases h2 : q < p
    · rw [if_pos h2]; exact ⟨fun _ => h2, fun _ => by decide⟩
    · rw [if_neg h2]; exact ⟨fun z => by omega, fun z => absurd z h2⟩
abbrev s_smallest : Stmt := top 14
theorem c_smallest : FnScope ["first", "others", "found", "other"] ["first", "others"] (defScope s_smallest) := ⟨rfl, rfl, rfl, by decide +kernel, rfl, by decide +kernel, by decide +kernel⟩
theorem f_smallest (F : FunD K "smallest" "smallest" (defArgs s_smallest) (defBody s_smallest) (defScope s_smallest) [] [] f fd) (hm : mg "smallest" = some (.ref f)) (Fcompare : Fn P w K mg base 1 "compare" (spCompare K)) : Fn P w K mg base 2 "smallest" (spMin minQ K) := by
  refine fn_star (ps := ["first"]) (pv := "others") (sp := spMinT minQ K) F hm c_smallest (fun _ _ _ _ _ _ us rest hl => match us, rest, hl with | [_], [], _ => rfl | [_], _ :: _, _ => rfl) (fun cdv A outer s H vs Q E hr h => ?_) ?himp
  case himp =>
    exact spMin_imp
  · obtain ⟨v0, q0, t, xs, qs, rfl, h0, z0, ht, ha, hz, k⟩ := h
    have nd := c_smallest.nd
    refine ⟨_, (pss_cons (ps_set (i := 2) nd rfl (by first | exact Or.inl rfl | exact Or.inr rfl) (pv 0))
      (pss_cons (ps_for PassesOwn.never rfl (pi_tup (pv 1)) (pg_name (i := 3) nd rfl (by first | exact Or.inl rfl | exact Or.inr rfl))
        (pss_one (ps_if (pt_cmpR op_lt (pe_fn Fcompare (hr.mono (by decide)) (pa_cons (pv 3) (pa_cons (pv 2) pa_nil))) pe_int (nomark _))
          (pss_one (ps_set (i := 2) nd rfl (by first | exact Or.inl rfl | exact Or.inr rfl) (pv 3)))
          pss_nil)))
      (pss_one (ps_ret (pv 2))))), ?_⟩
    show (_ : TS) _ [some _, some _, none, none] _
    try dsimp only [cxOf, Cx.nox]
    walk_at "go"
    refine r_forT rfl ht (fun i σ H1 => H1 = H ∧ ∃ fv u, σ = [some v0, some (.ref t), some fv, u] ∧ Am K H fv (minQ q0 (qs.take i))) ⟨rfl, _, _, rfl, h0⟩ (fun i σ H1 _ h => h.1 ▸ ht) ?_ ?_
    · rintro i x σ H1 hx ⟨rfl, fv, u, rfl, hf⟩
      obtain ⟨q, hq, hxq⟩ := ha.at_ hx
      have sf : Sz 4000 (minQ q0 (qs.take i)) := minQ_mem z0 fun y hy => hz y (List.mem_of_mem_take hy)
      walk_at "go"
      refine ⟨_, _, q, _, rfl, hxq, hf, hz q (List.mem_of_getElem? hq), sf, ?_⟩
      walk_at "go"
      refine r_dec (fun hlt => ?_) (fun hge => ?_)
      · walk_at "go"
        refine ⟨rfl, _, _, rfl, ?_⟩
        unfold minQ
        rw [fold_take hq]
        show Am K H1 x (if q < minQ q0 (qs.take i) then q else minQ q0 (qs.take i))
        rw [if_pos ((cmp_lt _ _).mp hlt)]
        exact hxq
      · walk_at "go"
        refine ⟨rfl, _, _, rfl, ?_⟩
        unfold minQ
        rw [fold_take hq]
        show Am K H1 fv (if q < minQ q0 (qs.take i) then q else minQ q0 (qs.take i))
        rw [if_neg fun z => hge ((cmp_lt _ _).mpr z)]
        exact hf
    · rintro σ H1 ⟨rfl, fv, u, rfl, hf⟩
      walk_at "go"
      rw [ha.1, List.take_length] at hf
      exact k _ _ Ext.refl hf
abbrev s_largest : Stmt := top 15
theorem c_largest : FnScope ["first", "others", "found", "other"] ["first", "others"] (defScope s_largest) := ⟨rfl, rfl, rfl, by decide +kernel, rfl, by decide +kernel, by decide +kernel⟩
theorem f_largest (F : FunD K "largest" "largest" (defArgs s_largest) (defBody s_largest) (defScope s_largest) [] [] f fd) (hm : mg "largest" = some (.ref f)) (Fcompare : Fn P w K mg base 1 "compare" (spCompare K)) : Fn P w K mg base 2 "largest" (spMin maxQ K) := by
  refine fn_star (ps := ["first"]) (pv := "others") (sp := spMinT maxQ K) F hm c_largest (fun _ _ _ _ _ _ us rest hl => match us, rest, hl with | [_], [], _ => rfl | [_], _ :: _, _ => rfl) (fun cdv A outer s H vs Q E hr h => ?_) ?himp
  case himp =>
    exact spMin_imp
  · obtain ⟨v0, q0, t, xs, qs, rfl, h0, z0, ht, ha, hz, k⟩ := h
    have nd := c_largest.nd
    refine ⟨_, (pss_cons (ps_set (i := 2) nd rfl (by first | exact Or.inl rfl | exact Or.inr rfl) (pv 0))
      (pss_cons (ps_for PassesOwn.never rfl (pi_tup (pv 1)) (pg_name (i := 3) nd rfl (by first | exact Or.inl rfl | exact Or.inr rfl))
        (pss_one (ps_if (pt_cmpR op_gt (pe_fn Fcompare (hr.mono (by decide)) (pa_cons (pv 3) (pa_cons (pv 2) pa_nil))) pe_int (nomark _))
          (pss_one (ps_set (i := 2) nd rfl (by first | exact Or.inl rfl | exact Or.inr rfl) (pv 3)))
          pss_nil)))
      (pss_one (ps_ret (pv 2))))), ?_⟩
    show (_ : TS) _ [some _, some _, none, none] _
    try dsimp only [cxOf, Cx.nox]
    walk_at "go"
    refine r_forT rfl ht (fun i σ H1 => H1 = H ∧ ∃ fv u, σ = [some v0, some (.ref t), some fv, u] ∧ Am K H fv (maxQ q0 (qs.take i))) ⟨rfl, _, _, rfl, h0⟩ (fun i σ H1 _ h => h.1 ▸ ht) ?_ ?_
    · rintro i x σ H1 hx ⟨rfl, fv, u, rfl, hf⟩
      obtain ⟨q, hq, hxq⟩ := ha.at_ hx
      have sf : Sz 4000 (maxQ q0 (qs.take i)) := maxQ_mem z0 fun y hy => hz y (List.mem_of_mem_take hy)
      walk_at "go"
      refine ⟨_, _, q, _, rfl, hxq, hf, hz q (List.mem_of_getElem? hq), sf, ?_⟩
      walk_at "go"
      refine r_dec (fun hlt => ?_) (fun hge => ?_)
      · walk_at "go"
        refine ⟨rfl, _, _, rfl, ?_⟩
        unfold maxQ
        rw [fold_take hq]
        show Am K H1 x (if maxQ q0 (qs.take i) < q then q else maxQ q0 (qs.take i))
        rw [if_pos ((cmp_gt _ _).mp hlt)]
        exact hxq
      · walk_at "go"
        refine ⟨rfl, _, _, rfl, ?_⟩
        unfold maxQ
        rw [fold_take hq]
        show Am K H1 fv (if maxQ q0 (qs.take i) < q then q else maxQ q0 (qs.take i))
        rw [if_neg fun z => hge ((cmp_gt _ _).mpr z)]
        exact hf
    · rintro σ H1 ⟨rfl, fv, u, rfl, hf⟩
      walk_at "go"
      rw [ha.1, List.take_length] at hf
      exact k _ _ Ext.refl hf
def spPair (K : PySem.W.Frag) : Sp := fun vs H Q _ => ∃ a b : Nat, vs = [.int (a : Int), .int (b : Int)] ∧ 0 < b ∧ a < 2 ^ 8900 ∧ b < 2 ^ 8900 ∧ RetAm K H Q (mkRat (a : Int) b)
end
end Yk

set_option maxHeartbeats 1000000
namespace Yk
open PySem PySem.Spec PyProof.Rows L2

section
variable {P : Program} {w : World} {K : PySem.W.Frag} {mg : Str → Option Value} {base : Heap} {f : Addr} {fd : FuncData}
theorem szd {n : Nat} {q : Rat} (h : Sz n q) : (q.den : Int).natAbs < 2 ^ n := h.2
theorem mulz {m n : Nat} {i j : Int} (hi : i.natAbs < 2 ^ m) (hj : j.natAbs < 2 ^ n) : (i * j).natAbs < 2 ^ (m + n) := wide_lt hi hj
/-- amounts are not below nought: their first numbers are natural -/
theorem num_nat {q : Rat} (h : 0 ≤ q) : q.num = ((q.num.toNat : Nat) : Int) := (Int.toNat_of_nonneg (num_nn h)).symm
theorem pos_num {q : Rat} (h : 0 < q) : 0 < q.num.toNat := by have := num_pos' h; omega
theorem mk_add (p q : Rat) : mkRat (p.num * q.den + q.num * p.den) (p.den * q.den) = p + q := by rw [Rat.add_def, Rat.normalize_eq_mkRat]
theorem mk_mul (p q : Rat) : mkRat (p.num * q.num) (p.den * q.den) = p * q := by rw [Rat.mul_def, Rat.normalize_eq_mkRat]
def spMore (K : PySem.W.Frag) : Sp := fun vs H Q _ => ∃ v1 v2 p q, vs = [v1, v2] ∧ Am K H v1 p ∧ Am K H v2 q ∧ Sz 4000 p ∧ Sz 4000 q ∧ Q (.bl (decide (q < p))) H
/-- two amounts, of at most 2000 bits, to one -/
def sp2 (ok : Rat → Rat → Prop) (F : Rat → Rat → Rat) (K : PySem.W.Frag) : Sp := fun vs H Q _ => ∃ v1 v2 p q, vs = [v1, v2] ∧ Am K H v1 p ∧ Am K H v2 q ∧ Sz 4000 p ∧ Sz 4000 q ∧ 0 ≤ p ∧ 0 ≤ q ∧ ok p q ∧ RetAm K H Q (F p q)
theorem mk_quot {p q : Rat} (hq : 0 < q) : mkRat (p.num * q.den) (p.den * q.num.toNat) = p / q := by
  obtain ⟨i1, i2⟩ := inv_parts hq
  have e : q⁻¹.den = q.num.toNat := by omega
  rw [Rat.div_def, ← mk_mul, i1, e]
end
end Yk

set_option maxHeartbeats 1000000
namespace Yk
open PySem PySem.Spec PyProof.Rows L2

section
variable {P : Program} {w : World} {K : PySem.W.Frag} {mg : Str → Option Value} {base : Heap} {f : Addr} {fd : FuncData}
def lmin (p q : Rat) : Rat := if q < p then q else p
def lmax (p q : Rat) : Rat := if q < p then p else q
def spOrder (K : PySem.W.Frag) : Sp := fun vs H Q _ => ∃ v1 v2 p q, vs = [v1, v2] ∧ Am K H v1 p ∧ Am K H v2 q ∧ Sz 4000 p ∧ Sz 4000 q ∧ Q (.int (cmpQ p q)) H
theorem sumQ_nn : ∀ {qs : List Rat} {z : Rat}, 0 ≤ z → (∀ q ∈ qs, 0 ≤ q) → 0 ≤ qs.foldl (· + ·) z
  | [], z, h, _ => h
  | q :: r, z, h, hq => sumQ_nn (qs := r) (z := z + q) (Rat.add_nonneg h (hq q List.mem_cons_self)) fun x hx => hq x (List.mem_cons_of_mem _ hx)
def spSum (K : PySem.W.Frag) : Sp := fun vs H Q _ => ∃ t xs qs m, vs = [V.ref t] ∧ SqL K H t xs ∧ Ams K H xs qs ∧ (∀ q ∈ qs, Sz m q) ∧ (∀ q ∈ qs, 0 ≤ q) ∧ m ≤ 4000 ∧ 1 + qs.length * (m + 1) ≤ 4000 ∧ RetAm K H Q (sumQ qs)
end
end Yk

set_option maxHeartbeats 2000000
namespace Yk
open PySem PySem.Spec PyProof.Rows L2

section
variable {P : Program} {w : World} {K : PySem.W.Frag} {mg : Str → Option Value} {base : Heap} {f : Addr} {fd : FuncData}
theorem lst_upd {K : PySem.W.Frag} {H : Hp} {a b : Addr} {o : HO} {xs l : List V} (h : SqL K H a xs) (hb : H b = some (.lst l)) (hd : xs ≠ l) : SqL K (upd H b o) a xs := by
  rcases h with (h | ⟨u, h⟩) | h
  · exact .inl (.inl (by rw [upd_ne (fun z => hd (by rw [z, hb] at h; cases h; rfl))]; exact h))
  · exact .inl (.inr ⟨u, by rw [upd_ne (fun z => by rw [z, hb] at h; cases h)]; exact h⟩)
  · exact .inr h
theorem ns_ne (ns : List Int) (it : Addr) (l : List V) : ns.map V.int ≠ .ref it :: l := by
  cases ns with
  | nil => intro h; cases h
  | cons n r => intro h; cases h
theorem cpow {i : Int} {j : Int} (h0 : 0 ≤ j) (h1 : j ≤ 1000000) (h : i.natAbs < 2 ^ 64) : CPow i j := ⟨h0, h1, h⟩
theorem cdivc (i : Int) : CDivW i 97 := ⟨by decide, by decide +kernel⟩
def spDraw (K : PySem.W.Frag) : Sp := fun vs H Q _ => ∃ (b : Bag) (n : Int), vs = [.ref b.a, .int n] ∧ 0 < n ∧ n < 2 ^ 400 ∧ BagAt K H b ∧ ∀ (x : Int) H', 0 ≤ x → x < n → BagAt K H' b → Ext [b.a] H H' → Q (.int x) H'
theorem at_map {ns : List Int} {i : Nat} (h : i < ns.length) : atI (ns.map V.int) (i : Int) = some (.int ns[i]) := atI_nat (by rw [List.getElem?_map, List.getElem?_eq_getElem h] <;> rfl)
theorem bag_ex {K : PySem.W.Frag} {H : Hp} {b it : Addr} {ns : List Int} {pos : Nat} {rest seed cnt : Int} (hb : H b = some (.lst [.ref it, .int (pos : Int), .int rest, .int seed, .int cnt])) (hi : SqL K H it (ns.map V.int)) (hns : ns.length ≤ 63)
    (hp : pos ≤ ns.length) (hr : 0 ≤ rest) (h0 : 0 ≤ seed) (h1 : seed < 2147483629) : BagAt K H ⟨b, it, ns⟩ := ⟨_, hb, hi, hns, pos, rest, seed, cnt, rfl, hp, hr, h0, h1⟩
theorem modI (a : Int) {n : Int} (h : 0 < n) : 0 ≤ a % n ∧ a % n < n := ⟨Int.emod_nonneg a (by omega), Int.emod_lt_of_pos a h⟩
end
end Yk

set_option maxHeartbeats 2000000
namespace Yk
open PySem PySem.Spec PyProof.Rows L2

section
variable {P : Program} {w : World} {K : PySem.W.Frag} {mg : Str → Option Value} {base : Heap} {f : Addr} {fd : FuncData}
theorem cut_all {xs : List V} (h : xs.length ≤ 63) : cutV xs none (some 63) = xs := by
  unfold cutV
  rw [show HT.sIx xs.length 0 none = 0 from rfl, show HT.sIx xs.length xs.length (some 63) = min 63 xs.length from HT.sIx_nat _ _ 63, List.drop_zero, Nat.min_eq_right h]
  simp
def spBag (K : PySem.W.Frag) : Sp := fun vs H Q _ => ∃ (a : Addr) (ns : List Int), vs = [.ref a] ∧ SqL K H a (ns.map V.int) ∧ ns.length ≤ 63 ∧ ∀ (b : Bag) H', H b.a = none → Ext [] H H' → BagAt K H' b → Q (.ref b.a) H'
/-- one of a row of things: what is told of all of them is told of it -/
def spOf (K : PySem.W.Frag) : Sp := fun vs H Q _ => ∃ (b : Bag) (l : Addr) (xs : List V), vs = [.ref b.a, .ref l] ∧ BagAt K H b ∧ SqL K H l xs ∧ b.a ≠ l ∧ 0 < xs.length ∧ xs.length ≤ 4000 ∧ ∀ (i : Nat) (x : V) H', xs[i]? = some x → BagAt K H' b → Ext [b.a] H H' → Q x H'
abbrev s_law_of : Stmt := top 35
theorem c_law_of : FnScope ["_law_bag_here", "_law_things"] ["_law_bag_here", "_law_things"] (defScope s_law_of) := ⟨rfl, rfl, rfl, by decide +kernel, rfl, by decide +kernel, by decide +kernel⟩
theorem f_law_of (F : FunD K "_law_of" "_law_of" (defArgs s_law_of) (defBody s_law_of) (defScope s_law_of) [] [] f fd) (hm : mg "_law_of" = some (.ref f)) (T : Bt mg) (F_law_draw : Fn P w K mg base 1 "_law_draw" (spDraw K)) : Fn P w K mg base 2 "_law_of" (spOf K) := by
  refine fn_def F hm c_law_of (fun vs H Q E h => ?_) (fun _ _ _ _ _ _ us hl => match us, hl with | [_, _], _ => rfl) (fun cdv A outer s H vs Q E hr h => ?_)
  · obtain ⟨b, l, xs, rfl, _⟩ := h
    rfl
  · obtain ⟨b, l, xs, rfl, hb, hl, hne, h0, h4, k⟩ := h
    have nd := c_law_of.nd
    refine ⟨_, (pss_one (ps_ret (pe_ix ix_list (pv 1) (pe_fn F_law_draw (hr.mono (by decide)) (pa_cons (pv 0) (pa_cons (pe_callB cr_len (by rfl) T.len (by decide +kernel) (pa_cons (pv 1) pa_nil)) pa_nil))) (fun _ _ => rfl)))), ?_⟩
    show (_ : TS) _ [some _, some _] _
    try dsimp only [cxOf, Cx.nox]
    walk_at "go"
    refine ⟨b, _, rfl, by omega, Int.lt_of_le_of_lt (by omega : (xs.length : Int) ≤ 4000) (by decide), hb, fun x H' x0 x1 hb' e => ?_⟩
    have hl' : SqL K H' l xs := lstX e hl (by simpa using fun z => hne z.symm)
    have hx : x.toNat < xs.length := by omega
    refine r_ixL hl' (v := xs[x.toNat]) ?_ (k x.toNat _ H' (List.getElem?_eq_getElem hx) hb' e)
    have e2 : x = ((x.toNat : Nat) : Int) := by omega
    exact at_of e2 (List.getElem?_eq_getElem hx)
end
end Yk

set_option maxHeartbeats 4000000
namespace Yk
open PySem PySem.Spec PyProof.Rows L2

section
variable {P : Program} {w : World} {K : PySem.W.Frag} {mg : Str → Option Value} {base : Heap} {f : Addr} {fd : FuncData}
theorem of_am {K : PySem.W.Frag} {H : Hp} {b : Bag} {l : Addr} {xs : List V} {qs : List Rat} {Q : VK} {E : XK} (hb : BagAt K H b) (hl : SqL K H l xs) (hne : b.a ≠ l) (ha : Ams K H xs qs) (h0 : 0 < qs.length) (h4 : qs.length ≤ 4000)
    (k : ∀ v q H', q ∈ qs → Am K H' v q → BagAt K H' b → Ext [b.a] H H' → Q v H') : spOf K [.ref b.a, .ref l] H Q E :=
  ⟨b, l, xs, rfl, hb, hl, hne, by rw [ha.1]; exact h0, by rw [ha.1]; exact h4, fun i x H' hx hb' e => by
    obtain ⟨q, hq, hm⟩ := ha.at_ hx
    exact k x q H' (List.mem_of_getElem? hq) (hm.b hb e) hb' e⟩
theorem mulp {i j a b : Int} (i0 : 0 ≤ i) (i1 : i < a) (j0 : 0 ≤ j) (j1 : j < b) (ha : a ≤ 2 ^ 400) (hb : b ≤ 2 ^ 400) : CMulW i j := by
  refine cmul (m := 401) (n := 401) ?_ ?_ (by decide) (by decide) (by decide)
  · have : (2 : Nat) ^ 400 < 2 ^ 401 := by decide
    have : ((2 : Nat) ^ 400 : Int) = 2 ^ 400 := by norm_cast
    omega
  · have : (2 : Nat) ^ 400 < 2 ^ 401 := by decide
    have : ((2 : Nat) ^ 400 : Int) = 2 ^ 400 := by norm_cast
    omega
theorem e10 : (10 : Int) ^ Int.toNat 10 = 10000000000 := by decide
theorem e4 : (10 : Int) ^ Int.toNat 4 = 10000 := by decide
theorem e9 : (10 : Int) ^ Int.toNat 9 = 1000000000 := by decide
def spGreat (K : PySem.W.Frag) : Sp := fun vs H Q _ => ∃ b, vs = [.ref b.a] ∧ BagAt K H b ∧ ∀ (x : Int) H', 0 ≤ x → x < 2 ^ 114 → BagAt K H' b → Ext [b.a] H H' → Q (.int x) H'
theorem pair_am {a b : Nat} {m : Nat} (ha : a < 2 ^ m) (hb : 0 < b) (hb2 : b < 2 ^ m) : Sz m (mkRat (a : Int) b) ∧ 0 ≤ mkRat (a : Int) b := ⟨sz_mk hb rfl (by simpa using ha) hb2, mk_nn a b⟩
def spAmt (K : PySem.W.Frag) : Sp := fun vs H Q _ => ∃ b, vs = [.ref b.a] ∧ BagAt K H b ∧ ∀ v q H', Am K H' v q → 0 ≤ q → Sz 114 q → BagAt K H' b → Ext [b.a] H H' → Q v H'
/-- a bit: a whole number of twelfths, at most 12 -/
def spBit (K : PySem.W.Frag) : Sp := fun vs H Q _ => ∃ b, vs = [.ref b.a] ∧ BagAt K H b ∧ ∀ v (n d : Nat) H', n ≤ 12 → 0 < d → d ∣ 12 → Am K H' v (mkRat (n : Int) d) → BagAt K H' b → Ext [b.a] H H' → Q v H'
theorem spBit_amt {H : Hp} {b : Bag} {Q : VK} {E : XK} (hb : BagAt K H b) (k : ∀ v q H', Am K H' v q → 0 ≤ q → Sz 114 q → BagAt K H' b → Ext [b.a] H H' → Q v H') : spBit K [.ref b.a] H Q E :=
  ⟨b, rfl, hb, fun v n d H' hn d0 hd a b' e => by
    obtain ⟨z1, z2⟩ := pair_am (m := 114) (Nat.lt_of_le_of_lt hn (by decide)) d0 (Nat.lt_of_le_of_lt (Nat.le_of_dvd (by decide) hd) (by decide))
    exact k v _ H' a z2 z1 b' e⟩
theorem sz_lit {n : Int} {d m : Nat} (hd : d ≠ 0) (hc : n.natAbs.Coprime d) (h1 : n.natAbs < 2 ^ m) (h2 : d < 2 ^ m) : Sz m ⟨n, d, hd, hc⟩ := ⟨h1, h2⟩
theorem nn_lit {n : Int} {d : Nat} (hd : d ≠ 0) (hc : n.natAbs.Coprime d) (h : 0 ≤ n) : (0 : Rat) ≤ ⟨n, d, hd, hc⟩ := Rat.num_nonneg.mp h
def nine : List Rat := [⟨0, 1, by decide, by decide⟩, ⟨1, 1, by decide, by decide⟩, ⟨1000, 1, by decide, by decide⟩, ⟨1, 12, by decide, by decide⟩, ⟨999, 1, by decide, by decide⟩, ⟨1001, 1, by decide, by decide⟩, ⟨12001, 12, by decide, by decide⟩, ⟨1, 13, by decide, by decide⟩, ⟨2, 1, by decide, by decide⟩]
theorem nine_all : ∀ q ∈ nine, 0 ≤ q ∧ Sz 114 q := by
  intro q hq
  unfold nine at hq
  simp only [List.mem_cons, List.not_mem_nil, or_false] at hq
  rcases hq with rfl | rfl | rfl | rfl | rfl | rfl | rfl | rfl | rfl <;> exact ⟨nn_lit _ _ (by decide), sz_lit _ _ (by decide) (by decide)⟩
end
end Yk

set_option maxHeartbeats 4000000
namespace Yk
open PySem PySem.Spec PyProof.Rows L2

section
variable {P : Program} {w : World} {K : PySem.W.Frag} {mg : Str → Option Value} {base : Heap} {f : Addr} {fd : FuncData}
theorem perm_erase : ∀ {xs : List V} {i : Nat} (h : i < xs.length), (xs[i] :: xs.eraseIdx i).Perm xs
  | a :: r, 0, _ => List.Perm.refl _
  | a :: r, i + 1, h => ((List.Perm.swap a _ _)).trans ((perm_erase (xs := r) (i := i) (by simpa using h)).cons a)
/-- a new list with the same things -/
def spMixed (K : PySem.W.Frag) : Sp := fun vs H Q _ => ∃ (b : Bag) (l : Addr) (xs : List V), vs = [.ref b.a, .ref l] ∧ BagAt K H b ∧ SqL K H l xs ∧ b.a ≠ l ∧ xs.length ≤ 4000 ∧ ∀ (p : Addr) (ys : List V) H', ys.Perm xs → H p = none → H' p = some (.lst ys) → BagAt K H' b → Ext [b.a] H H' → Q (.ref p) H'
end
end Yk

set_option maxHeartbeats 4000000
namespace Yk
open PySem PySem.Spec PyProof.Rows L2

section
variable {P : Program} {w : World} {K : PySem.W.Frag} {mg : Str → Option Value} {base : Heap} {f : Addr} {fd : FuncData}
/-- two rows of one length, from three to six -/
theorem row_cases {C : List V → List Rat → Prop} {xs : List V} {qs : List Rat} (hl : xs.length = qs.length) (h3 : 3 ≤ qs.length) (h6 : qs.length ≤ 6)
    (c3 : ∀ v0 v1 v2 q0 q1 q2, C [v0, v1, v2] [q0, q1, q2]) (c4 : ∀ v0 v1 v2 v3 q0 q1 q2 q3, C [v0, v1, v2, v3] [q0, q1, q2, q3])
    (c5 : ∀ v0 v1 v2 v3 v4 q0 q1 q2 q3 q4, C [v0, v1, v2, v3, v4] [q0, q1, q2, q3, q4]) (c6 : ∀ v0 v1 v2 v3 v4 v5 q0 q1 q2 q3 q4 q5, C [v0, v1, v2, v3, v4, v5] [q0, q1, q2, q3, q4, q5]) : C xs qs := by
  match xs, qs, hl, h3, h6 with
  | [], qs, h, h3, _ => simp at h; omega
  | [_], qs, h, h3, _ => simp at h; omega
  | [_, _], qs, h, h3, _ => simp at h; omega
  | [v0, v1, v2], [q0, q1, q2], _, _, _ => exact c3 ..
  | [v0, v1, v2, v3], [q0, q1, q2, q3], _, _, _ => exact c4 ..
  | [v0, v1, v2, v3, v4], [q0, q1, q2, q3, q4], _, _, _ => exact c5 ..
  | [v0, v1, v2, v3, v4, v5], [q0, q1, q2, q3, q4, q5], _, _, _ => exact c6 ..
  | _ :: _ :: _ :: _ :: _ :: _ :: _ :: _, _ :: _ :: _ :: _ :: _ :: _ :: _ :: _, _, _, h => simp at h; try omega
def spSums (K : PySem.W.Frag) : Sp := fun vs H Q _ => ∃ r xs qs, vs = [V.ref r] ∧ SqL K H r xs ∧ Ams K H xs qs ∧ 3 ≤ qs.length ∧ qs.length ≤ 6 ∧ (∀ q ∈ qs, Sz 114 q) ∧ RetAm K H Q (sumQ qs)
def spEnds (K : PySem.W.Frag) : Sp := fun vs H Q _ => ∃ r xs q0 qs, vs = [V.ref r] ∧ SqL K H r xs ∧ Ams K H xs (q0 :: qs) ∧ 3 ≤ (q0 :: qs).length ∧ (q0 :: qs).length ≤ 6 ∧ (∀ q ∈ q0 :: qs, Sz 114 q) ∧
  ∀ p v1 v2 H', H p = none → H' p = some (.lst [v1, v2]) → Am K H' v1 (minQ q0 qs) → Am K H' v2 (maxQ q0 qs) → Ext [] H H' → Q (.ref p) H'
def endsK (K : PySem.W.Frag) (H : Hp) (Q : VK) (qs : List Rat) : Prop := ∀ p v1 v2 H', H p = none → H' p = some (.lst [v1, v2]) → Am K H' v1 (minQ (qs.headD 0) qs.tail) → Am K H' v2 (maxQ (qs.headD 0) qs.tail) → Ext [] H H' → Q (.ref p) H'
end
end Yk

set_option maxHeartbeats 4000000
namespace Yk
open PySem PySem.Spec PyProof.Rows L2

section
variable {P : Program} {w : World} {K : PySem.W.Frag} {mg : Str → Option Value} {base : Heap} {f : Addr} {fd : FuncData}
/-! rows by their sizes, in any order -/
inductive Szs : Nat → List Rat → Prop where
  | nil : Szs 0 []
  | cons {m B : Nat} {q : Rat} {ps : List Rat} (h : Sz m q) (r : Szs B ps) : Szs (B + (m + 1)) (q :: ps)
theorem Szs.perm {l l' : List Rat} (p : l.Perm l') : ∀ {B : Nat}, Szs B l → Szs B l' := by
  induction p with
  | nil => exact fun h => h
  | cons x _ ih =>
    intro B h
    cases h with
    | cons h r => exact .cons h (ih r)
  | swap x y l =>
    intro B h
    cases h with
    | cons h r =>
      cases r with
      | cons h2 r =>
        rename_i m1 m2 B2
        have := Szs.cons h2 (Szs.cons h r)
        rw [show B2 + (m2 + 1) + (m1 + 1) = B2 + (m1 + 1) + (m2 + 1) by omega]
        exact this
  | trans _ _ ih1 ih2 => exact fun h => ih2 (ih1 h)
theorem Szs.all : ∀ {l : List Rat} {m : Nat}, (∀ q ∈ l, Sz m q) → Szs (l.length * (m + 1)) l
  | [], m, _ => by simpa using Szs.nil
  | q :: r, m, h => by
    have := Szs.cons (h q List.mem_cons_self) (Szs.all (l := r) (m := m) fun x hx => h x (List.mem_cons_of_mem _ hx))
    rw [List.length_cons, Nat.add_mul, Nat.one_mul]
    exact this
def opR (g : Rat → Rat → Rat) (z : Rat) (l : List Rat) : Rat := l.foldr g z
theorem opR_perm {g : Rat → Rat → Rat} {z : Rat} (hg : ∀ a b c, g a (g b c) = g b (g a c)) {l l' : List Rat} (p : l.Perm l') : opR g z l = opR g z l' := by
  induction p with
  | nil => rfl
  | cons x _ ih => exact congrArg (g x) ih
  | swap x y l => exact hg _ _ _
  | trans _ _ h1 h2 => exact h1.trans h2
theorem sumQ_R (l : List Rat) : sumQ l = opR (· + ·) 0 l := by
  have h : ∀ (l : List Rat) (z : Rat), l.foldl (· + ·) z = z + opR (· + ·) 0 l := by
    intro l
    induction l with
    | nil => intro z; show z = z + 0; rw [Rat.add_zero]
    | cons a r ih =>
      intro z
      show r.foldl (· + ·) (z + a) = z + (a + opR (· + ·) 0 r)
      rw [ih, Rat.add_assoc]
  unfold sumQ
  rw [h, Rat.zero_add]
theorem sumQ_perm {l l' : List Rat} (p : l.Perm l') : sumQ l = sumQ l' := by
  rw [sumQ_R, sumQ_R]
  exact opR_perm (fun a b c => by rw [← Rat.add_assoc, Rat.add_comm a b, Rat.add_assoc]) p
def prodQ (qs : List Rat) : Rat := qs.foldl (· * ·) 1
theorem prodQ_R (l : List Rat) : prodQ l = opR (· * ·) 1 l := by
  have h : ∀ (l : List Rat) (z : Rat), l.foldl (· * ·) z = z * opR (· * ·) 1 l := by
    intro l
    induction l with
    | nil => intro z; show z = z * 1; rw [Rat.mul_one]
    | cons a r ih =>
      intro z
      show r.foldl (· * ·) (z * a) = z * (a * opR (· * ·) 1 r)
      rw [ih, Rat.mul_assoc]
  unfold prodQ
  rw [h, Rat.one_mul]
theorem Ams.erase {H : Hp} {xs : List V} {qs : List Rat} (h : Ams K H xs qs) (i : Nat) : Ams K H (xs.eraseIdx i) (qs.eraseIdx i) := by
  refine ⟨by rw [List.length_eraseIdx, List.length_eraseIdx, h.1], fun j v q a b => ?_⟩
  rw [List.getElem?_eraseIdx] at a b
  split at a
  · rename_i hj
    rw [if_pos hj] at b
    exact h.2 j v q a b
  · rename_i hj
    rw [if_neg hj] at b
    exact h.2 (j + 1) v q a b
theorem Ams.app {H : Hp} {xs ys : List V} {qs rs : List Rat} (h : Ams K H xs qs) (r : Ams K H ys rs) : Ams K H (xs ++ ys) (qs ++ rs) := by
  refine ⟨by rw [List.length_append, List.length_append, h.1, r.1], fun j v q a b => ?_⟩
  by_cases hj : j < xs.length
  · rw [List.getElem?_append_left hj] at a
    rw [List.getElem?_append_left (by rw [← h.1]; exact hj)] at b
    exact h.2 j v q a b
  · rw [List.getElem?_append_right (by omega)] at a
    rw [List.getElem?_append_right (by rw [← h.1]; omega), ← h.1] at b
    exact r.2 _ v q a b
theorem Ams.take {H : Hp} {xs : List V} {qs : List Rat} (h : Ams K H xs qs) (n : Nat) : Ams K H (xs.take n) (qs.take n) := by
  refine ⟨by rw [List.length_take, List.length_take, h.1], fun j v q a b => ?_⟩
  rw [List.getElem?_take] at a b
  split at a
  · rename_i hj
    rw [if_pos hj] at b
    exact h.2 j v q a b
  · cases a
theorem Ams.drop {H : Hp} {xs : List V} {qs : List Rat} (h : Ams K H xs qs) (n : Nat) : Ams K H (xs.drop n) (qs.drop n) := by
  refine ⟨by rw [List.length_drop, List.length_drop, h.1], fun j v q a b => ?_⟩
  rw [List.getElem?_drop] at a b
  exact h.2 _ v q a b
theorem permR : ∀ {xs : List Rat} {i : Nat} (h : i < xs.length), (xs[i] :: xs.eraseIdx i).Perm xs
  | a :: r, 0, _ => List.Perm.refl _
  | a :: r, i + 1, h => ((List.Perm.swap a _ _)).trans ((permR (xs := r) (i := i) (by simpa using h)).cons a)
theorem permI (xs : List Rat) (z : Rat) (k : Nat) : (xs.take k ++ [z] ++ xs.drop k).Perm (z :: xs) := by
  have h : (xs.take k ++ z :: xs.drop k).Perm (z :: (xs.take k ++ xs.drop k)) := List.perm_middle
  rw [List.take_append_drop] at h
  rw [List.append_assoc]
  exact h
/-- a pair put together: its value, its size -/
structure Join (g : Rat → Rat → Rat) (z : Rat) : Prop where
  swap : ∀ a b c, g a (g b c) = g b (g a c)
  assoc : ∀ a b c, g (g a b) c = g a (g b c)
  one : ∀ a, g a z = a
  sz : ∀ {m n : Nat} {a b : Rat}, Sz m a → Sz n b → Sz (m + n + 1) (g a b)
theorem join_add : Join (· + ·) 0 := ⟨fun a b c => by show a + (b + c) = b + (a + c); rw [← Rat.add_assoc, Rat.add_comm a b, Rat.add_assoc], fun a b c => Rat.add_assoc a b c, fun a => Rat.add_zero a, sz_add⟩
theorem join_mul : Join (· * ·) 1 := ⟨fun a b c => by show a * (b * c) = b * (a * c); rw [← Rat.mul_assoc, Rat.mul_comm a b, Rat.mul_assoc], fun a b c => Rat.mul_assoc a b c, fun a => Rat.mul_one a, fun h1 h2 => (sz_mul h1 h2).mono (by omega)⟩
theorem Join.two {g : Rat → Rat → Rat} {z : Rat} (J : Join g z) (a b : Rat) (l : List Rat) : opR g z (a :: b :: l) = opR g z (g a b :: l) := (J.assoc a b _).symm
theorem Join.sz2 {g : Rat → Rat → Rat} {z : Rat} (J : Join g z) {a b : Rat} {l : List Rat} {B : Nat} (h : Szs B (a :: b :: l)) : Szs B (g a b :: l) := by
  cases h with
  | cons h1 r =>
    cases r with
    | cons h2 r =>
      rename_i m1 m2 B2
      have := Szs.cons (J.sz h1 h2) r
      rw [show B2 + (m2 + 1) + (m1 + 1) = B2 + (m1 + m2 + 1 + 1) by omega]
      exact this
theorem Szs.hd {B : Nat} {a : Rat} {l : List Rat} (h : Szs B (a :: l)) : Sz B a := by
  cases h with
  | cons h1 r => exact h1.mono (by omega)
theorem Szs.tl {B : Nat} {a : Rat} {l : List Rat} (h : Szs B (a :: l)) : ∃ B', B' ≤ B ∧ Szs B' l := by
  cases h with
  | cons h1 r => exact ⟨_, by omega, r⟩
def gop (c : Bool) : Rat → Rat → Rat := if c then (· + ·) else (· * ·)
def gun (c : Bool) : Rat := if c then 0 else 1
theorem join_of (c : Bool) : Join (gop c) (gun c) := by
  cases c
  · exact join_mul
  · exact join_add
def spGrouped (K : PySem.W.Frag) : Sp := fun vs H Q _ => ∃ (b : Bag) (r : Addr) (c : Bool) (xs : List V) (qs : List Rat), vs = [.ref b.a, .ref r, .bl c] ∧ BagAt K H b ∧ SqL K H r xs ∧ b.a ≠ r ∧ Ams K H xs qs ∧ 1 ≤ qs.length ∧ qs.length ≤ 6 ∧ (∀ q ∈ qs, Sz 114 q) ∧
  ∀ v H', Am K H' v (opR (gop c) (gun c) qs) → BagAt K H' b → Ext [b.a] H H' → Q v H'
end
end Yk

set_option maxHeartbeats 4000000
namespace Yk
open PySem PySem.Spec PyProof.Rows L2

/-- the same data, so deep -/
inductive Eqd (K : PySem.W.Frag) (H : Hp) : Nat → V → V → Prop where
  | non (n : Nat) : Eqd K H n .non .non
  | bl (n : Nat) (b : Bool) : Eqd K H n (.bl b) (.bl b)
  | int (n : Nat) (i : Int) : Eqd K H n (.int i) (.int i)
  | str (n : Nat) (z : Str) : Eqd K H n (.str z) (.str z)
  | tup {n : Nat} {a b : Addr} {xs ys : List V} (ha : SqT K H a xs) (hb : SqT K H b ys) (hl : xs.length = ys.length) (h4 : xs.length ≤ 4000) (h : ∀ (i : Nat) (x y : V), xs[i]? = some x → ys[i]? = some y → Eqd K H n x y) : Eqd K H (n + 1) (.ref a) (.ref b)
  | lst {n : Nat} {a b : Addr} {xs ys : List V} (ha : SqL K H a xs) (hb : SqL K H b ys) (hl : xs.length = ys.length) (h4 : xs.length ≤ 4000) (h : ∀ (i : Nat) (x y : V), xs[i]? = some x → ys[i]? = some y → Eqd K H n x y) : Eqd K H (n + 1) (.ref a) (.ref b)
theorem Eqd.x0 {K : PySem.W.Frag} {H H1 : Hp} (e : Ext [] H H1) {n : Nat} {v w : V} (h : Eqd K H n v w) : Eqd K H1 n v w := by
  induction h with
  | non n => exact .non n
  | bl n b => exact .bl n b
  | int n i => exact .int n i
  | str n z => exact .str n z
  | tup ha hb hl h4 _ ih => exact .tup (tup0 e ha) (tup0 e hb) hl h4 ih
  | lst ha hb hl h4 _ ih => exact .lst (lst0 e ha) (lst0 e hb) hl h4 ih
theorem Am.eqd {K : PySem.W.Frag} {H : Hp} {v w : V} {q : Rat} (n : Nat) (h1 : Am K H v q) (h2 : Am K H w q) : Eqd K H (n + 1) v w := by
  obtain ⟨a, rfl, h1⟩ := h1
  obtain ⟨b, rfl, h2⟩ := h2
  refine .tup h1 h2 rfl (by simp) fun i x y hx hy => ?_
  rw [hx] at hy
  cases hy
  match i, hx with
  | 0, hx => cases hx; exact .int _ _
  | 1, hx => cases hx; exact .int _ _
  | i + 2, hx => cases hx
def spLike (K : PySem.W.Frag) : Nat → Sp
  | 0 => fun _ _ _ _ => False
  | n + 1 => fun vs H Q _ => ∃ v1 v2, vs = [v1, v2] ∧ Eqd K H n v1 v2 ∧ ∀ H', Ext [] H H' → Q (.bl true) H'
section
variable {P : Program} {w : World} {K : PySem.W.Frag} {mg : Str → Option Value} {base : Heap} {f : Addr} {fd : FuncData}
end
end Yk

set_option maxHeartbeats 4000000
namespace Yk
open PySem PySem.Spec PyProof.Rows L2 TL

section
variable {P : Program} {w : World} {K : PySem.W.Frag} {mg : Str → Option Value} {base : Heap} {f : Addr} {fd : FuncData}
def spNumText (K : PySem.W.Frag) : Sp := fun vs H Q _ => ∃ n : Nat, vs = [.int (n : Int)] ∧ n < 2 ^ 1900 ∧ ∀ H', Ext [] H H' → Q (.str (nt n)) H'
def spIsNum (K : PySem.W.Frag) : Sp := fun vs H Q _ => ∃ n : Int, vs = [.int n] ∧ Q (.bl true) H
def spIsAm (K : PySem.W.Frag) : Sp := fun vs H Q _ => ∃ (v : V) (q : Rat), vs = [v] ∧ Am K H v q ∧ 0 ≤ q ∧ Q (.bl true) H
end
end Yk

set_option maxHeartbeats 4000000
namespace Yk
open PySem PySem.Spec PyProof.Rows L2 TL

section
variable {σ : L2.St} {H : Hp} {Q : VK} {te : TE}
theorem r_js {t : TE} {ts : List TE} {acc : Str} {R : Str → Hp → Prop} (h : t σ H fun x H1 => ∃ y : Str, x = .str y ∧ (acc ++ y).length ≤ sizeLine ∧ tJs ts (acc ++ y) σ H1 R) : tJs (t :: ts) acc σ H R := h
theorem r_M1 {r : V → List V → Hp → VK → Prop} {to : TE} (h : to σ H fun x H1 => (∃ a, x = .str a) ∧ te σ H1 fun y H2 => r x [y] H2 Q) : tM1 r to te σ H Q := h
theorem r_jsN {acc : Str} {R : Str → Hp → Prop} (h : R acc H) : tJs [] acc σ H R := h
theorem r_fmt (h : te σ H fun x H1 => (∃ y : Str, x = .str y ∧ y.length ≤ sizeLine ∧ Q (.str y) H1) ∨ ∃ i : Int, x = .int i ∧ i.natAbs.log2 < 1920 ∧ Q (.str (toString i)) H1) : tFmt te σ H Q := h
theorem e_app (x : Str) : Str.empty ++ x = x := str_eq (by
  show (#[] ++ x.cps).toList = x.cps.toList
  simp)
theorem len_app (x y : Str) : (x ++ y).length = x.length + y.length := by
  show (x.cps ++ y.cps).size = _
  rw [Array.size_append]
  rfl
theorem ntl {n : Nat} (h : n < 2 ^ 1900) : (nt n).length ≤ 1900 := by rw [len_nt]; exact numL_le (by decide) (bits_lt h)
theorem ntl4 {n : Nat} (h : n < 2 ^ 1200) : (nt n).length ≤ 400 := by rw [len_nt]; exact numL_le (by decide) (Nat.lt_of_lt_of_le h (by decide +kernel))
end
section
variable {P : Program} {w : World} {K : PySem.W.Frag} {mg : Str → Option Value} {base : Heap} {f : Addr} {fd : FuncData}
def spReadNum (K : PySem.W.Frag) : Sp := fun vs H Q _ => ∃ (n : Nat) (m : Int), vs = [.str (nt n), .int m] ∧ (nt n).length ≤ 640 ∧ ((nt n).length : Int) ≤ m ∧ Q (.int (n : Int)) H
def spAmTxt (K : PySem.W.Frag) : Sp := fun vs H Q _ => ∃ v q, vs = [v] ∧ Am K H v q ∧ 0 ≤ q ∧ Sz 1900 q ∧ ∀ H', Ext [] H H' → Q (.str (amTxt q)) H'
def spReadAm (K : PySem.W.Frag) : Sp := fun vs H Q _ => ∃ q, vs = [.str (amTxt q)] ∧ 0 ≤ q ∧ Sz 1200 q ∧ RetAm K H Q q
end
end Yk

set_option maxHeartbeats 8000000
namespace Yk
open PySem PySem.Spec PyProof.Rows L2 TL

section
variable {P : Program} {w : World} {K : PySem.W.Frag} {mg : Str → Option Value} {base : Heap} {f : Addr} {fd : FuncData}
section
variable {H : Hp} {Q : VK} {E : XK} {v1 v2 v3 : V} {p q r : Rat} {m n : Nat}
theorem sumQ2 (p q : Rat) : sumQ [p, q] = p + q := by
  show 0 + p + q = p + q
  rw [Rat.zero_add]
theorem sumQ3 (p q r : Rat) : sumQ [p, q, r] = p + q + r := by
  show 0 + p + q + r = p + q + r
  rw [Rat.zero_add]
theorem k_plus2 (a1 : Am K H v1 p) (a2 : Am K H v2 q) (z1 : Sz 1900 p) (z2 : Sz 1900 q) (k : ∀ v H', Ext [] H H' → Am K H' v (p + q) → Q v H') : spPlus K [v1, v2] H Q E :=
  ⟨[p, q], 1900, Ams.cons a1 (Ams.cons a2 Ams.nil), fun x hx => by
    rcases List.mem_cons.mp hx with rfl | hx
    · exact z1
    · rw [List.mem_singleton.mp hx]; exact z2, by decide, by simp, fun v H' e a => k v H' e (by rw [sumQ2] at a; exact a)⟩
theorem k_plus3 (a1 : Am K H v1 p) (a2 : Am K H v2 q) (a3 : Am K H v3 r) (z1 : Sz 1300 p) (z2 : Sz 1300 q) (z3 : Sz 1300 r) (k : ∀ v H', Ext [] H H' → Am K H' v (p + q + r) → Q v H') : spPlus K [v1, v2, v3] H Q E :=
  ⟨[p, q, r], 1300, Ams.cons a1 (Ams.cons a2 (Ams.cons a3 Ams.nil)), fun x hx => by
    rcases List.mem_cons.mp hx with rfl | hx
    · exact z1
    · rcases List.mem_cons.mp hx with rfl | hx
      · exact z2
      · rw [List.mem_singleton.mp hx]; exact z3, by decide, by simp, fun v H' e a => k v H' e (by rw [sumQ3] at a; exact a)⟩
theorem k_times (a1 : Am K H v1 p) (a2 : Am K H v2 q) (z1 : Sz 4000 p) (z2 : Sz 4000 q) (k : ∀ v H', Ext [] H H' → Am K H' v (p * q) → Q v H') : spTimes K [v1, v2] H Q E := ⟨_, _, p, q, rfl, a1, a2, z1, z2, k⟩
theorem k_over (a1 : Am K H v1 p) (a2 : Am K H v2 q) (h : 0 < q) (z1 : Sz 4000 p) (z2 : Sz 4000 q) (k : ∀ v H', Ext [] H H' → Am K H' v (p / q) → Q v H') : spOver K [v1, v2] H Q E := ⟨_, _, p, q, rfl, a1, a2, h, z1, z2, k⟩
theorem k_minus (a1 : Am K H v1 p) (a2 : Am K H v2 q) (h : q ≤ p) (z1 : Sz 4000 p) (z2 : Sz 4000 q) (k : ∀ v H', Ext [] H H' → Am K H' v (p - q) → Q v H') : spMinus K [v1, v2] H Q E := ⟨_, _, p, q, rfl, a1, a2, h, z1, z2, k⟩
theorem k_cmp (a1 : Am K H v1 p) (a2 : Am K H v2 q) (z1 : Sz 4000 p) (z2 : Sz 4000 q) (k : Q (.int (cmpQ p q)) H) : spCompare K [v1, v2] H Q E := ⟨_, _, p, q, rfl, a1, a2, z1, z2, k⟩
theorem k_order (a1 : Am K H v1 p) (a2 : Am K H v2 q) (z1 : Sz 4000 p) (z2 : Sz 4000 q) (k : Q (.int (cmpQ p q)) H) : spOrder K [v1, v2] H Q E := ⟨_, _, p, q, rfl, a1, a2, z1, z2, k⟩
theorem k_two {ok : Rat → Rat → Prop} {F : Rat → Rat → Rat} (a1 : Am K H v1 p) (a2 : Am K H v2 q) (z1 : Sz 4000 p) (z2 : Sz 4000 q) (h1 : 0 ≤ p) (h2 : 0 ≤ q) (h3 : ok p q) (k : ∀ v H', Ext [] H H' → Am K H' v (F p q) → Q v H') : sp2 ok F K [v1, v2] H Q E := ⟨_, _, p, q, rfl, a1, a2, z1, z2, h1, h2, h3, k⟩
theorem ams_eqd {a b : Addr} {xs ys : List V} {qs : List Rat} (h1 : SqL K H a xs) (h2 : SqL K H b ys) (h3 : Ams K H xs qs) (h4 : Ams K H ys qs) (h5 : qs.length ≤ 4000) (n : Nat) : Eqd K H (n + 2) (.ref a) (.ref b) :=
  .lst h1 h2 (h3.1.trans h4.1.symm) (by rw [h3.1]; exact h5) fun i x y hx hy => by
    obtain ⟨q, hq, e1⟩ := h3.at_ hx
    exact e1.eqd n (h4.2 i y q hy hq)
theorem k_like {v w : V} {n : Nat} (h : Eqd K H n v w) (k : ∀ H', Ext [] H H' → Q (.bl true) H') : spLike K (n + 1) [v, w] H Q E := ⟨v, w, rfl, h, k⟩
theorem ints_eqd {a b : Addr} {ns : List Int} (h1 : SqL K H a (ns.map V.int)) (h2 : SqL K H b (ns.map V.int)) (h : ns.length ≤ 4000) (n : Nat) : Eqd K H (n + 1) (.ref a) (.ref b) :=
  .lst h1 h2 rfl (by rw [List.length_map]; exact h) fun i x y hx hy => by
    rw [hx] at hy
    cases hy
    rw [List.getElem?_map] at hx
    cases e : ns[i]? with
    | none => rw [e] at hx; cases hx
    | some z => rw [e] at hx; cases hx; exact .int _ _
theorem cmpQ_eq (p q : Rat) : cmpQ p q = cmpQ' p q := rfl
end
def spThree (K : PySem.W.Frag) : Sp := fun vs H Q _ => ∃ v1 v2 v3 p q r, vs = [v1, v2, v3] ∧ Am K H v1 p ∧ Am K H v2 q ∧ Am K H v3 r ∧ 0 ≤ p ∧ 0 ≤ q ∧ 0 ≤ r ∧ Sz 114 p ∧ Sz 114 q ∧ Sz 114 r ∧ ∀ H', Ext [] H H' → Q (.bl true) H'
end
end Yk

set_option maxHeartbeats 8000000
namespace Yk
open PySem PySem.Spec PyProof.Rows L2 TL

section
variable {P : Program} {w : World} {K : PySem.W.Frag} {mg : Str → Option Value} {base : Heap} {f : Addr} {fd : FuncData}
/-! the row of a turn -/
theorem Am.b2 {H H1 : Hp} {b : Bag} {v : V} {q : Rat} (e : Ext [b.a] H H1) (hb : BagAt K H b) (h : Am K H v q) : Am K H1 v q := h.b hb e
def Good (qs : List Rat) : Prop := 3 ≤ qs.length ∧ qs.length ≤ 6 ∧ ∀ q ∈ qs, 0 ≤ q ∧ Sz 114 q
structure RowAt (K : PySem.W.Frag) (H0 H : Hp) (b : Bag) (row : Addr) (xs : List V) (qs : List Rat) : Prop where
  at_ : H row = some (.lst xs)
  ams : Ams K H xs qs
  good : Good qs
  bag : BagAt K H b
  new : H0 row = none
  bag0 : BagAt K H0 b
  ext : Ext [b.a] H0 H
theorem RowAt.ne {H0 H : Hp} {b : Bag} {row : Addr} {xs : List V} {qs : List Rat} (R : RowAt K H0 H b row xs qs) : row ≠ b.a := fun z => R.bag0.ne R.new z.symm
theorem RowAt.x0 {H0 H H1 : Hp} {b : Bag} {row : Addr} {xs : List V} {qs : List Rat} (e : Ext [] H H1) (R : RowAt K H0 H b row xs qs) : RowAt K H0 H1 b row xs qs :=
  ⟨e _ _ R.at_ (fun z => nomatch z), R.ams.x0 e, R.good, R.bag.x0 e, R.new, R.bag0, R.ext.trans e.of0⟩
theorem RowAt.b {H0 H H1 : Hp} {b : Bag} {row : Addr} {xs : List V} {qs : List Rat} (e : Ext [b.a] H H1) (hb : BagAt K H1 b) (R : RowAt K H0 H b row xs qs) : RowAt K H0 H1 b row xs qs :=
  ⟨e _ _ R.at_ (by simpa using R.ne), R.ams.b R.bag e, R.good, hb, R.new, R.bag0, R.ext.trans e⟩
theorem RowAt.sq {H0 H : Hp} {b : Bag} {row : Addr} {xs : List V} {qs : List Rat} (R : RowAt K H0 H b row xs qs) : SqL K H row xs := .inl (.inl R.at_)
theorem Ams.set {H : Hp} {xs : List V} {qs : List Rat} (h : Ams K H xs qs) {j : Nat} {v : V} {q : Rat} (hv : Am K H v q) : Ams K H (xs.set j v) (qs.set j q) := by
  refine ⟨by rw [List.length_set, List.length_set, h.1], fun i x y a b => ?_⟩
  by_cases hj : j = i
  · subst hj
    rw [List.getElem?_set_self'] at a b
    cases ex : xs[j]? with
    | none => rw [ex] at a; cases a
    | some x0 =>
      cases eq : qs[j]? with
      | none => rw [eq] at b; cases b
      | some q0 =>
        rw [ex] at a
        rw [eq] at b
        cases a
        cases b
        exact hv
  · rw [List.getElem?_set_ne hj] at a b
    exact h.2 i x y a b
theorem lmax_eq (m q : Rat) : lmax m q = if m < q then q else m := by
  unfold lmax
  by_cases h1 : q < m
  · rw [if_pos h1, if_neg (by grind)]
  · rw [if_neg h1]
    by_cases h2 : m < q
    · rw [if_pos h2]
    · rw [if_neg h2]; grind
theorem minQ_spec : ∀ (qs : List Rat) (p : Rat), minQ p qs ∈ p :: qs ∧ ∀ x ∈ p :: qs, minQ p qs ≤ x
  | [], p => ⟨List.mem_cons_self, fun x hx => by rw [List.mem_singleton.mp hx]; exact Rat.le_refl⟩
  | q :: r, p => by
    obtain ⟨h1, h2⟩ := minQ_spec r (if q < p then q else p)
    have e : minQ p (q :: r) = minQ (if q < p then q else p) r := rfl
    rw [e]
    have h3 := h2 _ List.mem_cons_self
    refine ⟨?_, fun x hx => ?_⟩
    · rcases List.mem_cons.mp h1 with h | h
      · rw [h]; split <;> simp
      · exact List.mem_cons_of_mem _ (List.mem_cons_of_mem _ h)
    · rcases List.mem_cons.mp hx with rfl | hx
      · refine Rat.le_trans h3 ?_
        split
        · grind
        · exact Rat.le_refl
      · rcases List.mem_cons.mp hx with rfl | hx
        · refine Rat.le_trans h3 ?_
          split
          · exact Rat.le_refl
          · grind
        · exact h2 x (List.mem_cons_of_mem _ hx)
theorem maxQ_spec : ∀ (qs : List Rat) (p : Rat), maxQ p qs ∈ p :: qs ∧ ∀ x ∈ p :: qs, x ≤ maxQ p qs
  | [], p => ⟨List.mem_cons_self, fun x hx => by rw [List.mem_singleton.mp hx]; exact Rat.le_refl⟩
  | q :: r, p => by
    obtain ⟨h1, h2⟩ := maxQ_spec r (if p < q then q else p)
    have e : maxQ p (q :: r) = maxQ (if p < q then q else p) r := rfl
    rw [e]
    have h3 := h2 _ List.mem_cons_self
    refine ⟨?_, fun x hx => ?_⟩
    · rcases List.mem_cons.mp h1 with h | h
      · rw [h]; split <;> simp
      · exact List.mem_cons_of_mem _ (List.mem_cons_of_mem _ h)
    · rcases List.mem_cons.mp hx with rfl | hx
      · refine Rat.le_trans ?_ h3
        split
        · grind
        · exact Rat.le_refl
      · rcases List.mem_cons.mp hx with rfl | hx
        · refine Rat.le_trans ?_ h3
          split
          · exact Rat.le_refl
          · grind
        · exact h2 x (List.mem_cons_of_mem _ hx)
theorem minQ_perm {p q : Rat} {l m : List Rat} (h : (p :: l).Perm (q :: m)) : minQ p l = minQ q m := by
  obtain ⟨a1, a2⟩ := minQ_spec l p
  obtain ⟨b1, b2⟩ := minQ_spec m q
  exact Rat.le_antisymm (a2 _ (h.symm.subset b1)) (b2 _ (h.subset a1))
theorem maxQ_perm {p q : Rat} {l m : List Rat} (h : (p :: l).Perm (q :: m)) : maxQ p l = maxQ q m := by
  obtain ⟨a1, a2⟩ := maxQ_spec l p
  obtain ⟨b1, b2⟩ := maxQ_spec m q
  exact Rat.le_antisymm (b2 _ (h.subset a1)) (a2 _ (h.symm.subset b1))
theorem foldl_lmin (q : Rat) (l : List Rat) : (q :: l).foldl lmin q = minQ q l := by
  show l.foldl lmin (lmin q q) = minQ q l
  have e : lmin q q = q := by unfold lmin; split <;> rfl
  rw [e]
  rfl
theorem foldl_lmax (q : Rat) (l : List Rat) : (q :: l).foldl lmax q = maxQ q l := by
  show l.foldl lmax (lmax q q) = maxQ q l
  have e : lmax q q = q := by unfold lmax; split <;> rfl
  rw [e]
  have h : ∀ (l : List Rat) (z : Rat), l.foldl lmax z = l.foldl (fun m q => if m < q then q else m) z := by
    intro l
    induction l with
    | nil => intro z; rfl
    | cons a r ih =>
      intro z
      show r.foldl lmax (lmax z a) = r.foldl _ (if z < a then a else z)
      rw [lmax_eq, ih]
  exact h l q
/-- from the same things in another order, the same row -/
theorem ams_perm {H : Hp} {xs ys : List V} (p : ys.Perm xs) : ∀ {qs : List Rat}, Ams K H xs qs → ∃ rs, Ams K H ys rs ∧ rs.Perm qs := by
  induction p with
  | nil => exact fun {qs} h => ⟨qs, h, List.Perm.refl _⟩
  | cons x _ ih =>
    intro qs h
    cases qs with
    | nil => exact absurd h.1 (by simp)
    | cons q r =>
      have h1 : Ams K H _ r := ⟨by simpa using h.1, fun i v u a b => h.2 (i + 1) v u (by simpa using a) (by simpa using b)⟩
      obtain ⟨rs, a, b⟩ := ih h1
      exact ⟨q :: rs, Ams.cons (h.2 0 x q rfl rfl) a, b.cons q⟩
  | swap x y l =>
    intro qs h
    match qs, h with
    | [], h => exact absurd h.1 (by simp)
    | [_], h => exact absurd h.1 (by simp)
    | q1 :: q2 :: r, h =>
      have h1 : Ams K H l r := ⟨by simpa using h.1, fun i v u a b => h.2 (i + 2) v u (by simpa using a) (by simpa using b)⟩
      exact ⟨q2 :: q1 :: r, Ams.cons (h.2 1 _ q2 rfl rfl) (Ams.cons (h.2 0 _ q1 rfl rfl) h1), List.Perm.swap q1 q2 r⟩
  | trans _ _ ih1 ih2 =>
    intro qs h
    obtain ⟨rs, a, b⟩ := ih2 h
    obtain ⟨ts, c, d⟩ := ih1 a
    exact ⟨ts, c, d.trans b⟩
theorem Good.perm {qs rs : List Rat} (g : Good qs) (p : rs.Perm qs) : Good rs := ⟨by rw [p.length_eq]; exact g.1, by rw [p.length_eq]; exact g.2.1, fun q hq => g.2.2 q (p.subset hq)⟩
theorem k_amt {H : Hp} {b : Bag} {Q : VK} {E : XK} (hb : BagAt K H b) (k : ∀ v q H', Am K H' v q → 0 ≤ q → Sz 114 q → BagAt K H' b → Ext [b.a] H H' → Q v H') : spAmt K [.ref b.a] H Q E := ⟨b, rfl, hb, k⟩
theorem k_draw {H : Hp} {b : Bag} {n : Int} {Q : VK} {E : XK} (hb : BagAt K H b) (h0 : 0 < n) (h1 : n < 2 ^ 400) (k : ∀ (x : Int) H', 0 ≤ x → x < n → BagAt K H' b → Ext [b.a] H H' → Q (.int x) H') : spDraw K [.ref b.a, .int n] H Q E := ⟨b, n, rfl, h0, h1, hb, k⟩
end
end Yk

set_option maxHeartbeats 4000000
namespace Yk
structure Row where
  man : Option (Rat × Rat)
  w : Nat
  b : Rat
def shq (man : Option (Rat × Rat)) (w : Nat) (x : Rat) : Rat := match man with
  | none => 0
  | some (l, m) => lmax l (lmin m ((w : Rat) * x))
def Row.at_ (r : Row) (x : Rat) : Rat := shq r.man r.w (lmin x r.b)
def tot (rows : List Row) (x : Rat) : Rat := sumQ (rows.map fun r => r.at_ x)
theorem sumQ_cons (q : Rat) (l : List Rat) : sumQ (q :: l) = q + sumQ l := by
  have h : ∀ (l : List Rat) (z : Rat), l.foldl (· + ·) z = z + sumQ l := by
    intro l
    induction l with
    | nil => intro z; show z = z + 0; rw [Rat.add_zero]
    | cons a r ih =>
      intro z
      show r.foldl (· + ·) (z + a) = z + sumQ (a :: r)
      have e : sumQ (a :: r) = a + sumQ r := by
        show r.foldl (· + ·) (0 + a) = _
        rw [ih, Rat.zero_add]
      rw [ih, e, Rat.add_assoc]
  show l.foldl (· + ·) (0 + q) = _
  rw [h, Rat.zero_add]
theorem lmin_le1 (p q : Rat) : lmin p q ≤ p := by unfold lmin; split <;> grind
theorem lmin_le2 (p q : Rat) : lmin p q ≤ q := by unfold lmin; split <;> grind
theorem lmin_mono {p q r : Rat} (h : p ≤ q) : lmin p r ≤ lmin q r := by unfold lmin; split <;> split <;> grind
theorem wmono {w : Nat} {x y : Rat} (h : x ≤ y) : (w : Rat) * x ≤ (w : Rat) * y := Rat.mul_le_mul_of_nonneg_left h (by exact_mod_cast Nat.zero_le w)
theorem shq_mono {man : Option (Rat × Rat)} {w : Nat} {x y : Rat} (h : x ≤ y) : shq man w x ≤ shq man w y := by
  cases man with
  | none => exact Rat.le_refl
  | some p =>
    obtain ⟨l, m⟩ := p
    have h2 := wmono (w := w) h
    show lmax l (lmin m _) ≤ lmax l (lmin m _)
    generalize (w : Rat) * x = a at h2
    generalize (w : Rat) * y = b at h2
    unfold lmax lmin
    grind
theorem Row.mono (r : Row) {x y : Rat} (h : x ≤ y) : r.at_ x ≤ r.at_ y := shq_mono (lmin_mono h)
theorem tot_cons (r : Row) (rows : List Row) (x : Rat) : tot (r :: rows) x = r.at_ x + tot rows x := sumQ_cons _ _
theorem tot_mono (rows : List Row) {x y : Rat} (h : x ≤ y) : tot rows x ≤ tot rows y := by
  induction rows with
  | nil => exact Rat.le_refl
  | cons r rows ih =>
    rw [tot_cons, tot_cons]
    have := r.mono h
    grind
/-- linear between l and u -/
def Lin (T : Rat → Rat) (l u : Rat) : Prop := ∀ z, l ≤ z → z ≤ u → (T z - T l) * (u - l) = (T u - T l) * (z - l)
theorem Lin.const {T : Rat → Rat} {l u c : Rat} (hu : l ≤ u) (h : ∀ z, l ≤ z → z ≤ u → T z = c) : Lin T l u := fun z h1 h2 => by
  rw [h z h1 h2, h l Rat.le_refl hu, h u hu Rat.le_refl]
  grind
theorem Lin.line {T : Rat → Rat} {l u c : Rat} (hu : l ≤ u) (h : ∀ z, l ≤ z → z ≤ u → T z = c * z) : Lin T l u := fun z h1 h2 => by
  rw [h z h1 h2, h l Rat.le_refl hu, h u hu Rat.le_refl]
  grind
theorem Lin.add {T S : Rat → Rat} {l u : Rat} (h1 : Lin T l u) (h2 : Lin S l u) : Lin (fun z => T z + S z) l u := fun z a b => by
  have := h1 z a b
  have := h2 z a b
  dsimp only
  grind
def Row.brk (r : Row) : List Rat := match r.man with
  | none => [r.b]
  | some (l, m) => [l / (r.w : Rat), m / (r.w : Rat), r.b]
theorem Row.lin (r : Row) (hw : 0 < r.w) {l u : Rat} (hlu : l ≤ u) (h : r.man ≠ none → ∀ p ∈ r.brk, p ≤ l ∨ u ≤ p) : Lin r.at_ l u := by
  obtain ⟨man, w, b⟩ := r
  cases man with
  | none => exact Lin.const hlu (c := 0) fun z _ _ => rfl
  | some p =>
    obtain ⟨s, m⟩ := p
    have h := h (by simp)
    have hs := h (s / (w : Rat)) (by simp [Row.brk])
    have hm := h (m / (w : Rat)) (by simp [Row.brk])
    have hb := h b (by simp [Row.brk])
    have w0 : (0 : Rat) < (w : Rat) := by exact_mod_cast hw
    have es : (w : Rat) * (s / (w : Rat)) = s := by grind
    have em : (w : Rat) * (m / (w : Rat)) = m := by grind
    generalize s / (w : Rat) = s' at *
    generalize m / (w : Rat) = m' at *
    subst es em
    have k : ∀ z : Rat, ({ man := some ((w : Rat) * s', (w : Rat) * m'), w := w, b := b } : Row).at_ z = lmax ((w : Rat) * s') (lmin ((w : Rat) * m') ((w : Rat) * lmin z b)) := fun z => rfl
    have c1 : ∀ x y : Rat, x ≤ y → lmin ((w : Rat) * y) ((w : Rat) * x) = (w : Rat) * x := fun x y hxy => by have := wmono (w := w) hxy; unfold lmin; grind
    have c2 : ∀ x y : Rat, x ≤ y → lmin ((w : Rat) * x) ((w : Rat) * y) = (w : Rat) * x := fun x y hxy => by have := wmono (w := w) hxy; unfold lmin; grind
    have d1 : ∀ x y : Rat, x ≤ y → lmax ((w : Rat) * y) ((w : Rat) * x) = (w : Rat) * y := fun x y hxy => by have := wmono (w := w) hxy; unfold lmax; grind
    have d2 : ∀ x y : Rat, x ≤ y → lmax ((w : Rat) * x) ((w : Rat) * y) = (w : Rat) * y := fun x y hxy => by have := wmono (w := w) hxy; unfold lmax; grind
    rcases hb with hb | hb
    · refine Lin.const hlu (c := lmax ((w : Rat) * s') (lmin ((w : Rat) * m') ((w : Rat) * b))) fun z h1 h2 => ?_
      rw [k, show lmin z b = b by unfold lmin; grind]
    · have kz : ∀ z : Rat, z ≤ u → lmin z b = z := fun z h2 => by unfold lmin; grind
      rcases hm with hm | hm
      · refine Lin.const hlu (c := lmax ((w : Rat) * s') ((w : Rat) * m')) fun z h1 h2 => ?_
        rw [k, kz z h2, c2 _ _ (by grind)]
      · rcases hs with hs | hs
        · refine Lin.line hlu (c := (w : Rat)) fun z h1 h2 => ?_
          rw [k, kz z h2, c1 _ _ (by grind), d2 _ _ (by grind)]
        · refine Lin.const hlu (c := (w : Rat) * s') fun z h1 h2 => ?_
          rw [k, kz z h2, c1 _ _ (by grind), d1 _ _ (by grind)]
theorem lin_tot (rows : List Row) (hw : ∀ r ∈ rows, 0 < r.w) {l u : Rat} (hlu : l ≤ u) (h : ∀ r ∈ rows, r.man ≠ none → ∀ p ∈ r.brk, p ≤ l ∨ u ≤ p) : Lin (tot rows) l u := by
  induction rows with
  | nil => exact Lin.const hlu (c := 0) fun z _ _ => rfl
  | cons r rows ih =>
    have e : tot (r :: rows) = fun x => r.at_ x + tot rows x := funext fun x => tot_cons r rows x
    rw [e]
    exact (r.lin (hw r List.mem_cons_self) hlu (h r List.mem_cons_self)).add (ih (fun r hr => hw r (List.mem_cons_of_mem _ hr)) fun r hr => h r (List.mem_cons_of_mem _ hr))
theorem le_cases {x y : Rat} (h : x ≤ y) : x < y ∨ x = y := by grind
theorem nlt {x y : Rat} (h : x < y → False) : y ≤ x := Rat.not_lt.mp h
/-- the level: the least height at which the goal is reached, else the top -/
structure IsLev (T : Rat → Rat) (top goal y : Rat) : Prop where
  nn : 0 ≤ y
  le : y ≤ top
  lo : ∀ z, 0 ≤ z → z < y → T z < goal
  hi : goal ≤ T y ∨ y = top
theorem IsLev.le_of {T : Rat → Rat} {top goal y z : Rat} (a : IsLev T top goal y) (b : IsLev T top goal z) : z ≤ y := nlt fun h => by
  have := b.lo y a.nn h
  rcases a.hi with e | e
  · grind
  · have := b.le; grind
theorem IsLev.uniq {T : Rat → Rat} {top goal y z : Rat} (a : IsLev T top goal y) (b : IsLev T top goal z) : y = z := Rat.le_antisymm (b.le_of a) (a.le_of b)
/-- on a line -/
def onl (T : Rat → Rat) (goal l u : Rat) : Rat := l + (goal - T l) * (u - l) / (T u - T l)
theorem lev_line {T : Rat → Rat} {top goal l u : Rat} (mono : ∀ x y, x ≤ y → T x ≤ T y) (h0 : 0 ≤ l) (hlu : l ≤ u) (hu : u ≤ top) (hl : Lin T l u) (g1 : T l < goal) (g2 : goal ≤ T u) : IsLev T top goal (onl T goal l u) ∧ l < onl T goal l u ∧ onl T goal l u ≤ u ∧ T (onl T goal l u) = goal := by
  have lu : l < u := by
    rcases le_cases hlu with h | h
    · exact h
    · subst h; grind
  have d0 : 0 < T u - T l := by grind
  have e0 : 0 < u - l := by grind
  obtain ⟨y, hy⟩ : ∃ y, y = onl T goal l u := ⟨_, rfl⟩
  rw [← hy]
  have ey : (y - l) * (T u - T l) = (goal - T l) * (u - l) := by
    rw [hy]
    unfold onl
    grind
  have y1 : l < y := by
    have h1 : 0 < (y - l) * (T u - T l) := by rw [ey]; exact Rat.mul_pos (by grind) e0
    refine Rat.not_le.mp fun h => ?_
    have h2 : 0 ≤ (l - y) * (T u - T l) := Rat.mul_nonneg (by grind) (by grind)
    grind
  have y2 : y ≤ u := by
    refine Rat.not_lt.mp fun h => ?_
    have h1 : 0 < (y - u) * (T u - T l) := Rat.mul_pos (by grind) d0
    have h2 : 0 ≤ (T u - goal) * (u - l) := Rat.mul_nonneg (by grind) (by grind)
    grind
  have ty : T y = goal := by
    have h1 := hl y (by grind) y2
    have h2 : (T y - goal) * (u - l) = 0 := by grind
    rcases Rat.mul_eq_zero.mp h2 with h | h <;> grind
  refine ⟨⟨by grind, by grind, fun z z0 zy => ?_, .inl (by rw [ty]; exact Rat.le_refl)⟩, y1, y2, ty⟩
  rcases (Rat.le_total : z ≤ l ∨ l ≤ z) with h | h
  · have := mono z l h; grind
  · have h1 := hl z h (by grind)
    have h2 := hl y (by grind) y2
    have h3 : (T y - T z) * (u - l) = (T u - T l) * (y - z) := by grind
    have h4 : 0 < (T u - T l) * (y - z) := Rat.mul_pos d0 (by grind)
    refine Rat.not_le.mp fun h5 => ?_
    have h6 : 0 ≤ (T z - T y) * (u - l) := Rat.mul_nonneg (by grind) (by grind)
    grind
theorem lev_zero {T : Rat → Rat} {top goal : Rat} (h : 0 ≤ top) (g : goal ≤ T 0) : IsLev T top goal 0 := ⟨Rat.le_refl, h, fun z a b => by grind, .inl g⟩
theorem lev_top {T : Rat → Rat} {top goal : Rat} (mono : ∀ x y, x ≤ y → T x ≤ T y) (h : 0 ≤ top) (g : T top < goal) : IsLev T top goal top := ⟨h, Rat.le_refl, fun z a b => by have := mono z top (by grind); grind, .inr rfl⟩
/-- not below 0, at most M, a multiple of the D-th part of 1 -/
structure In (D M : Nat) (q : Rat) : Prop where
  nn : 0 ≤ q
  le : q ≤ (M : Rat)
  ex : ∃ n : Int, q * (D : Rat) = (n : Rat)
theorem natQ {a b : Nat} (h : a ≤ b) : (a : Rat) ≤ (b : Rat) := by exact_mod_cast h
theorem natP {a : Nat} (h : 0 < a) : (0 : Rat) < (a : Rat) := by exact_mod_cast h
theorem In.sz {D M j k : Nat} {q : Rat} (h : In D M q) (h0 : 0 < D) (hD : D ≤ 2 ^ j) (hM : M ≤ 2 ^ k) : Sz (j + k + 1) q := by
  obtain ⟨n, e⟩ := h.ex
  have d0 := natP h0
  have eq : q = mkRat n D := by
    rw [Rat.mkRat_eq_div]
    grind
  have n0 : 0 ≤ n := by
    have h1 : (0 : Rat) ≤ q * (D : Rat) := Rat.mul_nonneg h.nn (by grind)
    rw [e] at h1
    exact_mod_cast h1
  have n1 : n ≤ (M * D : Nat) := by
    have h1 : q * (D : Rat) ≤ (M : Rat) * (D : Rat) := Rat.mul_le_mul_of_nonneg_right h.le (by grind)
    rw [e] at h1
    have h2 : ((n : Int) : Rat) ≤ (((M * D : Nat) : Int) : Rat) := by push_cast; exact h1
    exact_mod_cast h2
  have hh : M * D ≤ 2 ^ (j + k) := by rw [Nat.add_comm, Nat.pow_add]; exact Nat.mul_le_mul hM hD
  have h2 : 2 ^ (j + k) < 2 ^ (j + k + 1) := Nat.pow_lt_pow_succ (by decide)
  have h3 : 2 ^ j ≤ 2 ^ (j + k) := Nat.pow_le_pow_right (by decide) (by omega)
  refine sz_mk h0 eq ?_ ?_
  · omega
  · omega
theorem In.up {D D' M : Nat} {q : Rat} (h : In D M q) (hd : D ∣ D') : In D' M q := by
  obtain ⟨n, e⟩ := h.ex
  obtain ⟨c, rfl⟩ := hd
  refine ⟨h.nn, h.le, n * (c : Int), ?_⟩
  push_cast
  grind
theorem In.most {D M M' : Nat} {q : Rat} (h : In D M q) (hm : M ≤ M') : In D M' q := ⟨h.nn, Rat.le_trans h.le (natQ hm), h.ex⟩
theorem In.of_le {D M M' : Nat} {q : Rat} (h : In D M q) (hm : q ≤ (M' : Rat)) : In D M' q := ⟨h.nn, hm, h.ex⟩
theorem In.zero {D M : Nat} : In D M 0 := ⟨Rat.le_refl, natQ (Nat.zero_le M), 0, by norm_cast; grind⟩
theorem In.nat {D M n : Nat} (h : n ≤ M) : In D M (n : Rat) := ⟨natQ (Nat.zero_le n), natQ h, ((n * D : Nat) : Int), by push_cast; rfl⟩
theorem In.frac {D M n d : Nat} (h : 0 < d) (hd : d ∣ D) (hm : n ≤ M * d) : In D M (mkRat (n : Int) d) := by
  obtain ⟨c, rfl⟩ := hd
  have d0 := natP h
  have e : mkRat (n : Int) d = (n : Rat) / (d : Rat) := by rw [Rat.mkRat_eq_div]; norm_cast
  have hm' : (n : Rat) ≤ (M : Rat) * (d : Rat) := by exact_mod_cast hm
  have n0 := natQ (Nat.zero_le n)
  obtain ⟨x, ex⟩ : ∃ x : Rat, x = (n : Rat) / (d : Rat) := ⟨_, rfl⟩
  have ex2 : x * (d : Rat) = (n : Rat) := by rw [ex]; grind
  rw [e, ← ex]
  refine ⟨?_, ?_, ((n * c : Nat) : Int), ?_⟩
  · refine Rat.not_lt.mp fun z => ?_
    have := Rat.mul_pos (a := -x) (b := (d : Rat)) (by grind) d0
    grind
  · refine Rat.not_lt.mp fun z => ?_
    have := Rat.mul_pos (a := x - (M : Rat)) (b := (d : Rat)) (by grind) d0
    grind
  · push_cast
    grind
theorem In.add {D M N : Nat} {p q : Rat} (h : In D M p) (g : In D N q) : In D (M + N) (p + q) := by
  obtain ⟨a, ea⟩ := h.ex
  obtain ⟨b, eb⟩ := g.ex
  have := h.nn; have := h.le; have := g.nn; have := g.le
  refine ⟨by grind, by push_cast; grind, a + b, by push_cast; grind⟩
theorem In.sub {D M N : Nat} {p q : Rat} (h : In D M p) (g : In D N q) (e : q ≤ p) : In D M (p - q) := by
  obtain ⟨a, ea⟩ := h.ex
  obtain ⟨b, eb⟩ := g.ex
  have := h.nn; have := h.le; have := g.nn; have := g.le
  refine ⟨by grind, by grind, a - b, by push_cast; grind⟩
theorem In.lmin {D M N : Nat} {p q : Rat} (h : In D M p) (g : In D N q) : In D N (lmin p q) := by
  unfold Yk.lmin
  split
  · exact g
  · exact h.of_le (by have := g.le; grind)
theorem In.lmin1 {D M N : Nat} {p q : Rat} (h : In D M p) (g : In D N q) : In D M (Yk.lmin p q) := by
  unfold Yk.lmin
  split
  · exact g.of_le (by have := h.le; grind)
  · exact h
theorem In.lmax {D M : Nat} {p q : Rat} (h : In D M p) (g : In D M q) : In D M (lmax p q) := by
  unfold Yk.lmax
  split
  · exact h
  · exact g
theorem In.mulN {D M : Nat} {q : Rat} (h : In D M q) (w : Nat) : In D (w * M) ((w : Rat) * q) := by
  obtain ⟨a, ea⟩ := h.ex
  have w0 : (0 : Rat) ≤ (w : Rat) := natQ (Nat.zero_le w)
  refine ⟨Rat.mul_nonneg w0 h.nn, ?_, (w : Int) * a, by push_cast; grind⟩
  push_cast
  exact Rat.mul_le_mul_of_nonneg_left h.le w0
theorem In.mul {D D' M N : Nat} {p q : Rat} (h : In D M p) (g : In D' N q) : In (D * D') (M * N) (p * q) := by
  obtain ⟨a, ea⟩ := h.ex
  obtain ⟨b, eb⟩ := g.ex
  have h1 : p * q ≤ (M : Rat) * q := Rat.mul_le_mul_of_nonneg_right h.le g.nn
  have h2 : (M : Rat) * q ≤ (M : Rat) * (N : Rat) := Rat.mul_le_mul_of_nonneg_left g.le (natQ (Nat.zero_le M))
  refine ⟨Rat.mul_nonneg h.nn g.nn, by push_cast; exact Rat.le_trans h1 h2, a * b, ?_⟩
  push_cast
  rw [← ea, ← eb]
  grind
theorem In.divN {D M w : Nat} {q : Rat} (h : In D M q) (hw : 0 < w) : In (D * w) M (q / (w : Rat)) := by
  obtain ⟨a, ea⟩ := h.ex
  have w0 := natP hw
  obtain ⟨x, ex⟩ : ∃ x : Rat, x = q / (w : Rat) := ⟨_, rfl⟩
  have ex2 : x * (w : Rat) = q := by rw [ex]; grind
  have w1 : (1 : Rat) ≤ (w : Rat) := by exact_mod_cast hw
  have x0 : 0 ≤ x := by
    refine Rat.not_lt.mp fun z => ?_
    have := Rat.mul_pos (a := -x) (b := (w : Rat)) (by grind) w0
    have := h.nn
    grind
  rw [← ex]
  refine ⟨x0, ?_, a, by push_cast; grind⟩
  have h1 : x * 1 ≤ x * (w : Rat) := Rat.mul_le_mul_of_nonneg_left w1 x0
  have := h.le
  grind
theorem In.half {D M : Nat} {q : Rat} (h : In D M q) : In (D * 2) M (q * (1 / 2)) := by
  have := h.divN (w := 2) (by decide)
  have e : q / ((2 : Nat) : Rat) = q * (1 / 2) := by push_cast; grind
  rw [e] at this
  exact this
/-- the point on a line, its size -/
theorem In.onl {E M B : Nat} {g tl tu l u : Rat} (h0 : 0 < E) (hg : In E B g) (htl : In E B tl) (htu : In E B tu) (hl : In E M l) (hu : In E M u) (h1 : tl < g) (h2 : g ≤ tu) (h3 : l ≤ u) :
    ∃ X, 0 < X ∧ E ∣ X ∧ X ≤ E * (B * E) ∧ In X M (l + (g - tl) * (u - l) / (tu - tl)) ∧ In E B (g - tl) ∧ In E B (tu - tl) ∧ In E M (u - l) := by
  have ig := hg.sub htl (by grind)
  have ir := htu.sub htl (by grind)
  have iu := hu.sub hl h3
  obtain ⟨n1, e1⟩ := ig.ex
  obtain ⟨n3, e3⟩ := ir.ex
  obtain ⟨n2, e2⟩ := iu.ex
  obtain ⟨n0, e0⟩ := hl.ex
  have E0 := natP h0
  have r0 : 0 < tu - tl := by grind
  have n30 : 0 < n3 := by
    have h := Rat.mul_pos r0 E0
    rw [e3] at h
    exact_mod_cast h
  have n3m : n3 ≤ ((B * E : Nat) : Int) := by
    have h : (tu - tl) * (E : Rat) ≤ (B : Rat) * (E : Rat) := Rat.mul_le_mul_of_nonneg_right ir.le (by grind)
    rw [e3] at h
    have h2 : ((n3 : Int) : Rat) ≤ (((B * E : Nat) : Int) : Rat) := by push_cast; exact h
    exact_mod_cast h2
  have en : ((n3.toNat : Nat) : Int) = n3 := by omega
  have eq : ((n3.toNat : Nat) : Rat) = (n3 : Rat) := by rw [← en]; norm_cast
  refine ⟨E * n3.toNat, Nat.mul_pos h0 (by omega), Nat.dvd_mul_right _ _, Nat.mul_le_mul_left _ (by omega), ?_, ig, ir, iu⟩
  obtain ⟨y, ey⟩ : ∃ y, y = (g - tl) * (u - l) / (tu - tl) := ⟨_, rfl⟩
  have ey2 : y * (tu - tl) = (g - tl) * (u - l) := by rw [ey]; grind
  rw [← ey]
  have y0 : 0 ≤ y := by
    refine Rat.not_lt.mp fun z => ?_
    have h1 := Rat.mul_pos (a := -y) (b := tu - tl) (by grind) r0
    have h2 := Rat.mul_nonneg ig.nn iu.nn
    grind
  have y1 : y ≤ u - l := by
    refine Rat.not_lt.mp fun z => ?_
    have h1 := Rat.mul_pos (a := y - (u - l)) (b := tu - tl) (by grind) r0
    have h2 := Rat.mul_nonneg (a := tu - g) (b := u - l) (by grind) iu.nn
    grind
  refine ⟨by have := hl.nn; grind, by have := hu.le; grind, n0 * n3 + n1 * n2, ?_⟩
  have h5 : y * (E : Rat) * (n3 : Rat) = (n1 : Rat) * (n2 : Rat) := by
    rw [← e3, ← e1, ← e2]
    grind
  push_cast
  rw [eq, ← e0]
  grind

theorem sumQ_map_perm {rows rows' : List Row} (p : rows.Perm rows') (x : Rat) : tot rows x = tot rows' x := sumQ_perm (p.map fun r => r.at_ x)
theorem tot_perm {rows rows' : List Row} (p : rows.Perm rows') : tot rows = tot rows' := funext (sumQ_map_perm p)
/-- what a row may be -/
structure RowOk (D M : Nat) (r : Row) : Prop where
  w0 : 0 < r.w
  w12 : r.w ≤ 12
  b : In D M r.b
  m : ∀ l u, r.man = some (l, u) → In D M l ∧ In D M u
theorem RowOk.up {D D' M : Nat} {r : Row} (h : RowOk D M r) (hd : D ∣ D') : RowOk D' M r := ⟨h.w0, h.w12, h.b.up hd, fun l u e => ⟨(h.m l u e).1.up hd, (h.m l u e).2.up hd⟩⟩
theorem shq_in {X M N w : Nat} {man : Option (Rat × Rat)} {x : Rat} (hm : ∀ l u, man = some (l, u) → In X M l ∧ In X M u) (hx : In X N x) : In X M (shq man w x) := by
  cases man with
  | none => exact In.zero
  | some p =>
    obtain ⟨l, u⟩ := p
    obtain ⟨h1, h2⟩ := hm l u rfl
    exact h1.lmax (h2.lmin1 (hx.mulN w))
theorem RowOk.at_ {X M N : Nat} {r : Row} {x : Rat} (h : RowOk X M r) (hx : In X N x) : In X M (r.at_ x) := shq_in h.m (hx.lmin h.b)
theorem tot_in {X M N : Nat} {x : Rat} (hx : In X N x) : ∀ {rows : List Row}, (∀ r ∈ rows, RowOk X M r) → In X (rows.length * M) (tot rows x)
  | [], _ => In.zero
  | r :: rows, h => by
    rw [tot_cons]
    have h1 := (h r List.mem_cons_self).at_ hx
    have h2 := tot_in hx (rows := rows) fun r hr => h r (List.mem_cons_of_mem _ hr)
    have h3 := h1.add h2
    rw [List.length_cons, Nat.add_mul, Nat.one_mul, Nat.add_comm]
    exact h3
theorem in_brk {D M : Nat} {r : Row} (h : RowOk D M r) : ∀ p ∈ r.brk, In (D * 27720) M p := by
  have hw : D * r.w ∣ D * 27720 := Nat.mul_dvd_mul_left D (by
    have a := h.w0
    have b := h.w12
    generalize r.w = w at a b
    have : w = 1 ∨ w = 2 ∨ w = 3 ∨ w = 4 ∨ w = 5 ∨ w = 6 ∨ w = 7 ∨ w = 8 ∨ w = 9 ∨ w = 10 ∨ w = 11 ∨ w = 12 := by omega
    rcases this with rfl | rfl | rfl | rfl | rfl | rfl | rfl | rfl | rfl | rfl | rfl | rfl <;> decide)
  intro p hp
  unfold Row.brk at hp
  split at hp
  · rw [List.mem_singleton.mp hp]
    exact h.b.up (Nat.dvd_mul_right _ _)
  · rename_i l u e
    obtain ⟨h1, h2⟩ := h.m l u e
    simp only [List.mem_cons, List.not_mem_nil, or_false] at hp
    rcases hp with rfl | rfl | rfl
    · exact (h1.divN h.w0).up hw
    · exact (h2.divN h.w0).up hw
    · exact h.b.up (Nat.dvd_mul_right _ _)
end Yk

set_option maxHeartbeats 4000000
namespace Yk
open PySem PySem.Spec PyProof.Rows L2

section
variable {K : PySem.W.Frag} {H H1 : Hp} {Q : VK}
def ManIs (K : PySem.W.Frag) (H : Hp) (v : V) : Option (Rat × Rat) → Prop
  | none => ∃ a, v = .ref a ∧ SqT K H a []
  | some p => ∃ a v1 v2, v = .ref a ∧ SqT K H a [v1, v2] ∧ Am K H v1 p.1 ∧ Am K H v2 p.2
theorem ManIs.x {S : List Addr} {v : V} {man : Option (Rat × Rat)} (e : Ext S H H1) (h : ManIs K H v man) (hs : ∀ b ∈ S, ∃ l, H b = some (.lst l)) : ManIs K H1 v man := by
  cases man with
  | none => obtain ⟨a, rfl, h⟩ := h; exact ⟨a, rfl, tupX e h hs⟩
  | some p => obtain ⟨a, v1, v2, rfl, h, a1, a2⟩ := h; exact ⟨a, v1, v2, rfl, tupX e h hs, a1.x e hs, a2.x e hs⟩
theorem ManIs.x0 {v : V} {man : Option (Rat × Rat)} (e : Ext [] H H1) (h : ManIs K H v man) : ManIs K H1 v man := h.x e fun _ z => nomatch z
def RowIs (K : PySem.W.Frag) (H : Hp) (v : V) (r : Row) : Prop := ∃ a mv bv, v = .ref a ∧ SqT K H a [mv, .int (r.w : Int), bv] ∧ ManIs K H mv r.man ∧ Am K H bv r.b
theorem RowIs.x {S : List Addr} {v : V} {r : Row} (e : Ext S H H1) (h : RowIs K H v r) (hs : ∀ b ∈ S, ∃ l, H b = some (.lst l)) : RowIs K H1 v r := by
  obtain ⟨a, mv, bv, rfl, h, h1, h2⟩ := h
  exact ⟨a, mv, bv, rfl, tupX e h hs, h1.x e hs, h2.x e hs⟩
theorem RowIs.x0 {v : V} {r : Row} (e : Ext [] H H1) (h : RowIs K H v r) : RowIs K H1 v r := h.x e fun _ z => nomatch z
def RowsIs (K : PySem.W.Frag) (H : Hp) (xs : List V) (rows : List Row) : Prop := Rel (RowIs K H) xs rows
theorem RowsIs.x {S : List Addr} {xs : List V} {rows : List Row} (e : Ext S H H1) (h : RowsIs K H xs rows) (hs : ∀ b ∈ S, ∃ l, H b = some (.lst l)) : RowsIs K H1 xs rows := h.imp fun _ _ z => z.x e hs
theorem RowsIs.x0 {xs : List V} {rows : List Row} (e : Ext [] H H1) (h : RowsIs K H xs rows) : RowsIs K H1 xs rows := h.imp fun _ _ z => z.x0 e
theorem bagS {b : Bag} (hb : BagAt K H b) : ∀ c ∈ [b.a], ∃ l, H c = some (.lst l) := fun c hc => by rw [List.mem_singleton.mp hc]; exact hb.lst
theorem lstS1 {c : Addr} {l : List V} (h : H c = some (.lst l)) : ∀ x ∈ [c], ∃ l, H x = some (.lst l) := fun x hx => by rw [List.mem_singleton.mp hx]; exact ⟨l, h⟩
theorem extW {c : Addr} {o : HO} : Ext [c] H (upd H c o) := Ext.refl.at_ List.mem_cons_self
theorem Am.w {c : Addr} {l l' : List V} {v : V} {q : Rat} (h : H c = some (.lst l)) (a : Am K H v q) : Am K (upd H c (.lst l')) v q := a.x extW (lstS1 h)
theorem Ams.w {c : Addr} {l l' : List V} {v : List V} {q : List Rat} (h : H c = some (.lst l)) (a : Ams K H v q) : Ams K (upd H c (.lst l')) v q := a.x extW (lstS1 h)
theorem RowIs.w {c : Addr} {l l' : List V} {v : V} {r : Row} (h : H c = some (.lst l)) (a : RowIs K H v r) : RowIs K (upd H c (.lst l')) v r := a.x extW (lstS1 h)
theorem RowsIs.w {c : Addr} {l l' : List V} {v : List V} {r : List Row} (h : H c = some (.lst l)) (a : RowsIs K H v r) : RowsIs K (upd H c (.lst l')) v r := a.x extW (lstS1 h)
/-! equality -/
theorem dp_am {v : V} {q : Rat} (h : Am K H v q) : Dp K H v (.tuple [.int q.num, .int (q.den : Int)]) := by
  obtain ⟨a, rfl, h⟩ := h
  exact .tup h (.cons (.int _) (.cons (.int _) .nil))
theorem rat_eq {p q : Rat} : p = q ↔ p.num = q.num ∧ p.den = q.den := ⟨fun h => by rw [h]; exact ⟨rfl, rfl⟩, fun h => Rat.ext h.1 h.2⟩
theorem eq_am {v w : V} {p q : Rat} (h : Am K H v p) (g : Am K H w q) (k : Q (.bl (decide (p = q))) H) : rEqD K v w H Q := by
  refine ⟨_, _, dp_am h, dp_am g, rfl, rfl, ?_⟩
  have e : PyData.eqv (.tuple [.int p.num, .int (p.den : Int)]) (.tuple [.int q.num, .int (q.den : Int)]) = decide (p = q) := by
    rw [Bool.eq_iff_iff]
    simp [PyData.eqv, PyData.eqvAll, rat_eq]
    omega
  rw [e]
  exact k
theorem ne_am {v w : V} {p q : Rat} (h : Am K H v p) (g : Am K H w q) (k : Q (.bl (!decide (p = q))) H) : rNeD K v w H Q := by
  refine ⟨_, _, dp_am h, dp_am g, rfl, rfl, ?_⟩
  have e : PyData.eqv (.tuple [.int p.num, .int (p.den : Int)]) (.tuple [.int q.num, .int (q.den : Int)]) = decide (p = q) := by
    rw [Bool.eq_iff_iff]
    simp [PyData.eqv, PyData.eqvAll, rat_eq]
    omega
  rw [e]
  exact k
theorem eq_man {v : V} {man : Option (Rat × Rat)} {p : Addr} (h : ManIs K H v man) (g : SqT K H p []) (k : Q (.bl man.isNone) H) : rEqD K v (.ref p) H Q := by
  cases man with
  | none => obtain ⟨a, rfl, h⟩ := h; exact ⟨.tuple [], .tuple [], .tup h .nil, .tup g .nil, rfl, rfl, k⟩
  | some q => obtain ⟨a, v1, v2, rfl, h, a1, a2⟩ := h; exact ⟨_, .tuple [], .tup h (.cons (dp_am a1) (.cons (dp_am a2) .nil)), .tup g .nil, rfl, rfl, k⟩
theorem ne_man {v : V} {man : Option (Rat × Rat)} {p : Addr} (h : ManIs K H v man) (g : SqT K H p []) (k : Q (.bl (!man.isNone)) H) : rNeD K v (.ref p) H Q := by
  cases man with
  | none => obtain ⟨a, rfl, h⟩ := h; exact ⟨.tuple [], .tuple [], .tup h .nil, .tup g .nil, rfl, rfl, k⟩
  | some q => obtain ⟨a, v1, v2, rfl, h, a1, a2⟩ := h; exact ⟨_, .tuple [], .tup h (.cons (dp_am a1) (.cons (dp_am a2) .nil)), .tup g .nil, rfl, rfl, k⟩
theorem am_nat {a : Addr} {w : Nat} (h : SqT K H a [.int (w : Int), .int 1]) : Am K H (.ref a) (w : Rat) := ⟨a, rfl, h⟩
theorem sz_nat {w m : Nat} (h : w < 2 ^ m) (h0 : 0 < m) : Sz m (w : Rat) := ⟨h, Nat.lt_of_lt_of_le (by decide : 1 < 2 ^ 1) (Nat.pow_le_pow_right (by decide) h0)⟩
theorem mk_w (w : Nat) {q : Rat} (h : 0 ≤ q) : mkRat ((w * q.num.toNat : Nat) : Int) q.den = (w : Rat) * q := by
  have hn := num_nn h
  have e : ((w * q.num.toNat : Nat) : Int) = (w : Int) * q.num := by push_cast; rw [Int.toNat_of_nonneg hn]
  rw [e, Rat.mkRat_eq_div]
  have hd := natP q.den_pos
  have e2 : (q.num : Rat) / (q.den : Rat) = q := by rw [← Rat.mkRat_eq_div]; exact Rat.mkRat_self q
  push_cast
  grind
theorem maxQ1 (a b : Rat) : maxQ a [b] = lmax a b := (lmax_eq a b).symm
theorem minQ1 (a b : Rat) : minQ a [b] = lmin a b := rfl
theorem lmin_comm (a b : Rat) : lmin a b = lmin b a := by unfold lmin; grind
theorem lmax_comm (a b : Rat) : lmax a b = lmax b a := by unfold lmax; grind
theorem k_min2 {v w : V} {p q : Rat} {E : XK} (a : Am K H v p) (b : Am K H w q) (z1 : Sz 4000 p) (z2 : Sz 4000 q) (k : ∀ v H', Ext [] H H' → Am K H' v (lmin p q) → Q v H') : spMin minQ K [v, w] H Q E :=
  ⟨p, [q], Ams.cons a (Ams.cons b Ams.nil), fun x hx => by
    rcases List.mem_cons.mp hx with rfl | hx
    · exact z1
    · rw [List.mem_singleton.mp hx]; exact z2, by simp, k⟩
theorem k_max2 {v w : V} {p q : Rat} {E : XK} (a : Am K H v p) (b : Am K H w q) (z1 : Sz 4000 p) (z2 : Sz 4000 q) (k : ∀ v H', Ext [] H H' → Am K H' v (lmax p q) → Q v H') : spMin maxQ K [v, w] H Q E :=
  ⟨p, [q], Ams.cons a (Ams.cons b Ams.nil), fun x hx => by
    rcases List.mem_cons.mp hx with rfl | hx
    · exact z1
    · rw [List.mem_singleton.mp hx]; exact z2, by simp, fun v H' e c => k v H' e (by rw [← maxQ1]; exact c)⟩
theorem sz_min {m : Nat} {p q : Rat} (h : Sz m p) (g : Sz m q) : Sz m (lmin p q) := by unfold lmin; split <;> assumption
theorem sz_max {m : Nat} {p q : Rat} (h : Sz m p) (g : Sz m q) : Sz m (lmax p q) := by unfold lmax; split <;> assumption
end
section
variable {P : Program} {w : World} {K : PySem.W.Frag} {mg : Str → Option Value} {base : Heap} {f : Addr} {fd : FuncData}
def ManSz (n : Nat) (man : Option (Rat × Rat)) : Prop := ∀ l u, man = some (l, u) → Sz n l ∧ Sz n u
def spShare (K : PySem.W.Frag) : Sp := fun vs H Q _ => ∃ (m x : V) (wt : Nat) (man : Option (Rat × Rat)) (q : Rat), vs = [m, .int (wt : Int), x] ∧ ManIs K H m man ∧ Am K H x q ∧ wt ≤ 12 ∧ ManSz 2000 man ∧ Sz 2000 q ∧ RetAm K H Q (shq man wt q)
abbrev s_share : Stmt := top 17
theorem c_share : FnScope ["manner", "weight", "level", "least", "most"] ["manner", "weight", "level"] (defScope s_share) := ⟨rfl, rfl, rfl, by decide +kernel, rfl, by decide +kernel, by decide +kernel⟩
theorem f_share (F : FunD K "share" "share" (defArgs s_share) (defBody s_share) (defScope s_share) [] [] f fd) (hm : mg "share" = some (.ref f)) (TZ : ∃ z, mg "ZERO" = some (.ref z) ∧ ∀ H, SqT K H z [.int 0, .int 1]) (Ftimes : Fn P w K mg base 2 "times" (spTimes K)) (Fsmallest : Fn P w K mg base 2 "smallest" (spMin minQ K)) (Flargest : Fn P w K mg base 2 "largest" (spMin maxQ K)) : FnOk P w K mg base CX0 3 f fd ["manner", "weight", "level"] (spShare K) := by
  refine ok_def F c_share (fun vs H Q E h => ?_) (fun cdv A outer s H vs Q E hr h => ?_)
  · obtain ⟨m, x, wt, man, q, rfl, _⟩ := h
    rfl
  · obtain ⟨m, x, wt, man, q, rfl, hm, hx, h12, zm, zx, k⟩ := h
    have nd := c_share.nd
    obtain ⟨z, mz, hz⟩ := TZ
    refine ⟨_, (pss_cons (ps_if (pt_cmpR (op_eqD hr.units) (pv 0) (pe_tup pa_nil) (nomark _))
        (pss_one (ps_ret (pe_glob (v := .ref z) rfl mz rfl)))
        pss_nil)
      (pss_cons (ps_asg (pv 0) (pg_tup rfl (pgs_cons (pg_name (i := 3) nd rfl (by first | exact Or.inl rfl | exact Or.inr rfl)) (pgs_cons (pg_name (i := 4) nd rfl (by first | exact Or.inl rfl | exact Or.inr rfl)) pgs_nil))))
      (pss_one (ps_ret (pe_fn Flargest (hr.mono (by decide)) (pa_cons (pv 3) (pa_cons (pe_fn Fsmallest (hr.mono (by decide)) (pa_cons (pv 4) (pa_cons (pe_fn Ftimes (hr.mono (by decide)) (pa_cons (pe_tup (pa_cons (pv 1) (pa_cons pe_int pa_nil))) (pa_cons (pv 2) pa_nil))) pa_nil))) pa_nil))))))), ?_⟩
    show (_ : TS) _ [some _, some _, some _, none, none] _
    try dsimp only [cxOf, Cx.nox]
    walk_at "go"
    refine eq_man (hm.x0 (Ext.refl.new (by assumption))) tupS ?_
    walk_at "go"
    cases man with
    | none =>
      walk_at "run"
      exact k _ _ (by walk_at "ext") ⟨z, rfl, hz _⟩
    | some p =>
      obtain ⟨l, u⟩ := p
      obtain ⟨zl, zu⟩ := zm l u rfl
      obtain ⟨a, v1, v2, rfl, ht, a1, a2⟩ := hm
      walk_at "run"
      refine k_times (am_nat tupS) (by walk_at "am") ((sz_nat (m := 4) (by omega) (by decide)).mono (by decide)) (zx.mono (by decide)) fun v3 H3 n3 a3 => ?_
      walk_at "go"
      have z3 : Sz 2004 ((wt : Rat) * q) := (sz_mul (sz_nat (m := 4) (by omega) (by decide)) zx).mono (by decide)
      refine k_min2 (by walk_at "am") a3 (zu.mono (by decide)) (z3.mono (by decide)) fun v4 H4 n4 a4 => ?_
      walk_at "go"
      have z4 : Sz 4000 (lmin u ((wt : Rat) * q)) := sz_min (zu.mono (by decide)) (z3.mono (by decide))
      refine k_max2 (by walk_at "am") a4 (zl.mono (by decide)) z4 fun v5 H5 n5 a5 => ?_
      walk_at "go"
      exact k _ _ (by walk_at "ext") a5
/-- rows of shares, carried through a list of them -/
theorem rowSz {X M j m : Nat} {r : Row} (h : RowOk X M r) (h0 : 0 < X) (hX : X ≤ 2 ^ j) (hM : M ≤ 2 ^ m) : ManSz (j + m + 1) r.man ∧ Sz (j + m + 1) r.b := ⟨fun l u e => ⟨(h.m l u e).1.sz h0 hX hM, (h.m l u e).2.sz h0 hX hM⟩, h.b.sz h0 hX hM⟩
/-- amounts in the row, all in step -/
structure TotOk (X M N : Nat) (rows : List Row) (x : Rat) : Prop where
  X0 : 0 < X
  X9 : X ≤ 2 ^ 360
  M9 : M ≤ 2 ^ 24
  N9 : N ≤ 2 ^ 120
  row : ∀ r ∈ rows, RowOk X M r
  x : In X N x
  n : rows.length ≤ 10
def spTotal (K : PySem.W.Frag) : Sp := fun vs H Q _ => ∃ (a : Addr) (xs : List V) (rows : List Row) (v : V) (x : Rat) (X M N : Nat), vs = [.ref a, v] ∧ SqQ K H a xs ∧ RowsIs K H xs rows ∧ Am K H v x ∧ TotOk X M N rows x ∧ RetAm K H Q (tot rows x)
theorem take_map {α : Type} {f : Row → α} {rows : List Row} {i : Nat} {r : Row} (h : rows[i]? = some r) : (rows.take (i + 1)).map f = (rows.take i).map f ++ [f r] := by
  obtain ⟨hl, e⟩ := List.getElem?_eq_some_iff.mp h
  rw [← List.take_append_getElem hl, List.map_append, e]
  rfl
abbrev s_total : Stmt := top 18
theorem c_total : FnScope ["wishes", "level", "found", "manner", "weight", "bound"] ["wishes", "level"] (defScope s_total) := ⟨rfl, rfl, rfl, by decide +kernel, rfl, by decide +kernel, by decide +kernel⟩
theorem f_total (F : FunD K "total" "total" (defArgs s_total) (defBody s_total) (defScope s_total) [] [] f fd) (hm : mg "total" = some (.ref f)) (Fshare : Fn P w K mg base 3 "share" (spShare K)) (Fplus : Fn P w K mg base 2 "plus" (spPlus K)) (Fsmallest : Fn P w K mg base 2 "smallest" (spMin minQ K)) : FnOk P w K mg base CX0 4 f fd ["wishes", "level"] (spTotal K) := by
  refine ok_def F c_total (fun vs H Q E h => ?_) (fun cdv A outer s H vs Q E hr h => ?_)
  · obtain ⟨a, xs, rows, v, x, X, M, N, rfl, _⟩ := h
    rfl
  · obtain ⟨a, xs, rows, v, x, X, M, N, rfl, ha, hrows, hx, T, k⟩ := h
    have nd := c_total.nd
    refine ⟨_, (pss_cons (ps_setLc (i := 2) (own := [("manner", 3), ("weight", 4), ("bound", 5)])  rfl nd rfl rfl (sw_true rfl rfl rfl (by decide +kernel)) (pi_seq (pv 0)) (blkOk_by (N := ["wishes", "level", "found", "manner", "weight", "bound"]) (sc := defScope s_total) (by decide +kernel)) (fun _ _ _ _ _ => (pg_tup (n := 3) rfl (pgs_cons (pg_name (i := 3) nd rfl (Or.inl rfl)) (pgs_cons (pg_name (i := 4) nd rfl (Or.inl rfl)) (pgs_cons (pg_name (i := 5) nd rfl (Or.inl rfl)) pgs_nil))) : PG _ _ (gTup K 3 _))) (fun _ _ _ _ _ => pts_nil) (fun _ _ _ _ _ => (pe_fn Fshare (hr.mono (by decide)) (pa_cons (pv 3) (pa_cons (pv 4) (pa_cons (pe_fn Fsmallest (hr.mono (by decide)) (pa_cons (pv 1) (pa_cons (pv 5) pa_nil))) pa_nil))))))
      (pss_one (ps_ret (pe_fnS1 Fplus (hr.mono (by decide)) (pv 2))))), ?_⟩
    show (_ : TS) _ [some _, some _, none, none, none, none] _
    try dsimp only [cxOf, Cx.nox]
    walk_at "go"
    have zr : ∀ r ∈ rows, ManSz 385 r.man ∧ Sz 385 r.b := fun r hr => rowSz (T.row r hr) T.X0 T.X9 T.M9
    have zx : Sz 481 x := T.x.sz T.X0 T.X9 T.N9
    refine r_lcQ rfl ha (kp0 Ext.refl) fun D hD => ⟨fun i H1 => ∃ acc : List V, H1 D = some (.lst acc) ∧ Ams K H1 acc ((rows.take i).map fun r => r.at_ x) ∧ Ext [] H H1, ?_, ?_, ?_, ?_⟩
    · exact ⟨[], upd_same, Ams.nil, Ext.refl.new hD⟩
    · rintro j H2 ⟨acc, _, _, e⟩
      exact kp0 e
    · rintro j y H1 hy ⟨acc, hacc, hams, e1⟩
      obtain ⟨r, hr, hrow⟩ := hrows.at_ hy
      have hrm := List.mem_of_getElem? hr
      obtain ⟨at_, mv, bv, rfl, ht, hm, hb⟩ := hrow.x0 e1
      walk_at "go"
      refine ⟨rfl, ?_⟩
      walk_at "go"
      refine k_min2 (hx.x0 e1) hb (zx.mono (by decide)) ((zr r hrm).2.mono (by decide)) fun v1 H2 n2 a2 => ?_
      walk_at "go"
      have zm : Sz 2000 (lmin x r.b) := (sz_min zx ((zr r hrm).2.mono (by decide))).mono (by decide)
      refine ⟨mv, v1, r.w, r.man, lmin x r.b, rfl, hm.x0 n2, a2, (T.row r hrm).w12, fun l u e => ⟨((zr r hrm).1 l u e).1.mono (by decide), ((zr r hrm).1 l u e).2.mono (by decide)⟩, zm, fun v2 H3 n3 a3 => ?_⟩
      walk_at "go"
      have hD3 : H3 D = some (.lst acc) := n3 _ _ (n2 _ _ hacc fun z => nomatch z) fun z => nomatch z
      have S3 : ∀ c ∈ [D], ∃ l, H3 c = some (.lst l) := fun c hc => by rw [List.mem_singleton.mp hc]; exact ⟨_, hD3⟩
      have e3 : Ext [D] H3 (upd H3 D (.lst (acc ++ [v2]))) := Ext.refl.at_ List.mem_cons_self
      have hl := hams.1
      rw [List.length_map, List.length_take] at hl
      have := T.n
      refine ⟨acc, hD3, Nat.lt_of_le_of_lt (by omega : acc.length ≤ 4000) (by decide), acc ++ [v2], upd_same, ?_, ((e1.trans n2).trans n3).own hD⟩
      rw [take_map hr]
      exact (((hams.x0 n2).x0 n3).x e3 S3).app (Ams.cons (a3.x e3 S3) Ams.nil)
    · rintro H1 ⟨acc, hacc, hams, e1⟩
      rw [hrows.1, List.take_length] at hams
      have hl := hams.1
      rw [List.length_map] at hl
      walk_at "go"
      refine ⟨D, acc, rfl, .inr (.inl (.inl hacc)), _, 385, hams, fun q hq => ?_, by decide, ?_, fun v2 H2 n2 a2 => ?_⟩
      · obtain ⟨r, hr, rfl⟩ := List.mem_map.mp hq
        exact ((T.row r hr).at_ T.x).sz T.X0 T.X9 T.M9
      · rw [List.length_map]
        have := T.n
        omega
      · walk_at "go"
        exact k v2 H2 (e1.trans n2) a2
end
end Yk

set_option maxHeartbeats 4000000
namespace Yk
open PySem PySem.Spec PyProof.Rows L2

section
variable {P : Program} {w : World} {K : PySem.W.Frag} {mg : Str → Option Value} {base : Heap} {f : Addr} {fd : FuncData}
/-- rising -/
abbrev Asc (qs : List Rat) : Prop := qs.Pairwise (· ≤ ·)
theorem asc_snoc {qs : List Rat} {q : Rat} (h : Asc qs) (g : ∀ x ∈ qs, x ≤ q) : Asc (qs ++ [q]) := List.pairwise_append.mpr ⟨h, List.pairwise_singleton _ _, fun x hx y hy => by rw [List.mem_singleton.mp hy]; exact g x hx⟩
theorem asc_get {qs : List Rat} (h : Asc qs) {i j : Nat} {x y : Rat} (hi : qs[i]? = some x) (hj : qs[j]? = some y) (e : i ≤ j) : x ≤ y := by
  obtain ⟨hi, rfl⟩ := List.getElem?_eq_some_iff.mp hi
  obtain ⟨hj, rfl⟩ := List.getElem?_eq_some_iff.mp hj
  rcases Nat.lt_or_eq_of_le e with e | rfl
  · exact List.pairwise_iff_getElem.mp h i j _ _ e
  · exact Rat.le_refl
structure Mid (ps qs : List Rat) (n j : Nat) (rs : List Rat) : Prop where
  perm : rs.Perm (ps.take n ++ qs.take j)
  asc : Asc rs
  p : ∀ x ∈ rs, ∀ y ∈ ps.drop n, x ≤ y
  q : ∀ x ∈ rs, ∀ y ∈ qs.drop j, x ≤ y
theorem drop_get {ps : List Rat} {n : Nat} {x : Rat} (h : ps[n]? = some x) : ps.drop n = x :: ps.drop (n + 1) := by
  obtain ⟨hl, rfl⟩ := List.getElem?_eq_some_iff.mp h
  exact List.drop_eq_getElem_cons hl
theorem take_get {ps : List Rat} {n : Nat} {x : Rat} (h : ps[n]? = some x) : ps.take (n + 1) = ps.take n ++ [x] := by
  obtain ⟨hl, rfl⟩ := List.getElem?_eq_some_iff.mp h
  exact (List.take_append_getElem hl).symm
theorem asc_drop {ps : List Rat} (h : Asc ps) {n : Nat} {x : Rat} (hx : ps[n]? = some x) : ∀ y ∈ ps.drop (n + 1), x ≤ y := by
  have h1 : Asc (ps.drop n) := h.sublist (List.drop_sublist n ps)
  rw [drop_get hx] at h1
  exact (List.pairwise_cons.mp h1).1
theorem Mid.fst {ps qs rs : List Rat} {n j : Nat} (m : Mid ps qs n j rs) (hp : Asc ps) (hq : Asc qs) {x y : Rat} (hx : ps[n]? = some x) (hy : qs[j]? = some y) (e : x ≤ y) : Mid ps qs (n + 1) j (rs ++ [x]) := by
  have dx := drop_get hx
  have dy := drop_get hy
  have xm : x ∈ ps.drop n := by rw [dx]; exact List.mem_cons_self
  refine ⟨?_, asc_snoc m.asc fun z hz => m.p z hz x xm, fun z hz u hu => ?_, fun z hz u hu => ?_⟩
  · rw [take_get hx]
    refine (m.perm.append_right [x]).trans ?_
    rw [List.append_assoc, List.append_assoc]
    exact (List.perm_append_comm).append_left _
  · have hu2 : u ∈ ps.drop n := by rw [dx]; exact List.mem_cons_of_mem _ hu
    rcases List.mem_append.mp hz with hz | hz
    · exact m.p z hz u hu2
    · rw [List.mem_singleton.mp hz]; exact asc_drop hp hx u hu
  · rcases List.mem_append.mp hz with hz | hz
    · exact m.q z hz u hu
    · rw [List.mem_singleton.mp hz]
      rw [dy] at hu
      rcases List.mem_cons.mp hu with rfl | hu
      · exact e
      · exact Rat.le_trans e (asc_drop hq hy u hu)
theorem Mid.snd {ps qs rs : List Rat} {n j : Nat} (m : Mid ps qs n j rs) (hp : Asc ps) (hq : Asc qs) {y : Rat} (hy : qs[j]? = some y) (e : ∀ x, ps[n]? = some x → y ≤ x) : Mid ps qs n (j + 1) (rs ++ [y]) := by
  have dy := drop_get hy
  have ym : y ∈ qs.drop j := by rw [dy]; exact List.mem_cons_self
  refine ⟨?_, asc_snoc m.asc fun z hz => m.q z hz y ym, fun z hz u hu => ?_, fun z hz u hu => ?_⟩
  · rw [take_get hy, ← List.append_assoc]
    exact m.perm.append_right [y]
  · rcases List.mem_append.mp hz with hz | hz
    · exact m.p z hz u hu
    · rw [List.mem_singleton.mp hz]
      cases hx : ps[n]? with
      | none =>
        rw [List.drop_eq_nil_of_le (List.getElem?_eq_none_iff.mp hx)] at hu
        cases hu
      | some x =>
        rw [drop_get hx] at hu
        rcases List.mem_cons.mp hu with rfl | hu
        · exact e _ hx
        · exact Rat.le_trans (e x hx) (asc_drop hp hx u hu)
  · have hu2 : u ∈ qs.drop j := by rw [dy]; exact List.mem_cons_of_mem _ hu
    rcases List.mem_append.mp hz with hz | hz
    · exact m.q z hz u hu2
    · rw [List.mem_singleton.mp hz]; exact asc_drop hq hy u hu
theorem Mid.done {ps qs rs : List Rat} {n : Nat} (m : Mid ps qs n qs.length rs) (hp : Asc ps) : (rs ++ ps.drop n).Perm (ps ++ qs) ∧ Asc (rs ++ ps.drop n) := by
  constructor
  · have h := m.perm.append_right (ps.drop n)
    rw [List.take_length] at h
    refine h.trans ?_
    rw [List.append_assoc]
    refine (List.perm_append_comm.append_left _).trans ?_
    rw [← List.append_assoc, List.take_append_drop]
  · exact List.pairwise_append.mpr ⟨m.asc, hp.sublist (List.drop_sublist n ps), m.p⟩
def spMerged (K : PySem.W.Frag) : Sp := fun vs H Q _ => ∃ (a b : Addr) (xs ys : List V) (ps qs : List Rat), vs = [.ref a, .ref b] ∧ SqL K H a xs ∧ SqL K H b ys ∧ Ams K H xs ps ∧ Ams K H ys qs ∧ Asc ps ∧ Asc qs ∧ (∀ q ∈ ps, Sz 4000 q) ∧ (∀ q ∈ qs, Sz 4000 q) ∧ ps.length ≤ 1000 ∧ qs.length ≤ 1000 ∧
  ∀ (c : Addr) (zs : List V) (rs : List Rat) H', H' c = some (.lst zs) → Ams K H' zs rs → rs.Perm (ps ++ qs) → Asc rs → Ext [] H H' → Q (.ref c) H'
theorem cmpQ_le {p q : Rat} : cmpQ p q ≤ 0 ↔ p ≤ q := by unfold cmpQ; grind
theorem cmpQ_lt {p q : Rat} : cmpQ p q < 0 ↔ p < q := by unfold cmpQ; grind
abbrev s_merged : Stmt := top 27
theorem c_merged : FnScope ["first", "second", "found", "at", "height"] ["first", "second"] (defScope s_merged) := ⟨rfl, rfl, rfl, by decide +kernel, rfl, by decide +kernel, by decide +kernel⟩
theorem f_merged (F : FunD K "_merged" "_merged" (defArgs s_merged) (defBody s_merged) (defScope s_merged) [] [] f fd) (hm : mg "_merged" = some (.ref f)) (T : Bt mg) (Fcompare : Fn P w K mg base 1 "compare" (spCompare K)) : Fn P w K mg base 2 "_merged" (spMerged K) := by
  refine fn_def F hm c_merged (fun vs H Q E h => ?_) (fun _ _ _ _ _ _ us hl => match us, hl with | [_, _], _ => rfl) (fun cdv A outer s H vs Q E hr h => ?_)
  · obtain ⟨a, b, xs, ys, ps, qs, rfl, _⟩ := h
    rfl
  · obtain ⟨a, b, xs, ys, ps, qs, rfl, ha, hb, hps, hqs, ap, aq, zp, zq, lp, lq, k⟩ := h
    have nd := c_merged.nd
    refine ⟨_, (pss_cons (ps_set (i := 2) nd rfl (by first | exact Or.inl rfl | exact Or.inr rfl) (pe_lst pa_nil))
      (pss_cons (ps_set (i := 3) nd rfl (by first | exact Or.inl rfl | exact Or.inr rfl) pe_int)
      (pss_cons (ps_for PassesOwn.never rfl (pi_list (pv 1)) (pg_name (i := 4) nd rfl (by first | exact Or.inl rfl | exact Or.inr rfl))
        (pss_cons (ps_while PassesOwn.never (PW.pt (pw_and (pt_cmpR op_lt (pv 3) (pe_callB cr_len (by rfl) T.len (by decide +kernel) (pa_cons (pv 0) pa_nil)) (nomark _)) (pw_and1 (pt_cmpR op_le (pe_fn Fcompare (hr.mono (by decide)) (pa_cons (pe_ix ix_list (pv 0) (pv 3) (fun _ _ => rfl)) (pa_cons (pv 4) pa_nil))) pe_int (nomark _)))))
          (pss_cons (ps_expr (pe_bm PySem.F.plainAttrs_list PySem.F.slot_list_append PySem.F.type_list_append mt_append (pv 2) (pa_cons (pe_ix ix_list (pv 0) (pv 3) (fun _ _ => rfl)) pa_nil)))
          (pss_one (ps_aug (i := 3) nd rfl (by first | exact Or.inl rfl | exact Or.inr rfl) pe_int ip_add))))
        (pss_one (ps_expr (pe_bm PySem.F.plainAttrs_list PySem.F.slot_list_append PySem.F.type_list_append mt_append (pv 2) (pa_cons (pv 4) pa_nil))))))
      (pss_one (ps_ret (pe_op op_cat (pv 2) (pe_slice sl_list (pv 0) (po_some (pv 3)) po_none))))))), ?_⟩
    show (_ : TS) _ [some _, some _, none, none, none] _
    try dsimp only [cxOf, Cx.nox]
    walk_at "go"
    rename_i D hD
    refine r_for ?_
    walk_at "go"
    refine ⟨b, rfl, ⟨_, lstN hb hD⟩, ?_⟩
    refine r_loopL (xs := ys) (fun j σ H1 => ∃ (n : Nat) (zs : List V) (rs : List Rat) (u : Option V), σ = [some (V.ref a), some (V.ref b), some (V.ref D), some (V.int (n : Int)), u] ∧ n ≤ ps.length ∧ H1 D = some (.lst zs) ∧ Ams K H1 zs rs ∧ Mid ps qs n j rs ∧ Ext [] H H1)
      ⟨0, [], [], none, rfl, Nat.zero_le _, upd_same, Ams.nil, ⟨by simp, List.Pairwise.nil, fun x hx => (nomatch hx), fun x hx => (nomatch hx)⟩, Ext.refl.new hD⟩ ?_ ?_ ?_
    · rintro j σ H1 hj ⟨n, zs, rs, u, rfl, hn, hz, hr, m, e1⟩
      exact lst0 e1 hb
    · rintro j y σ H1 hy ⟨n, zs, rs, u, rfl, hn, hz, hr, m, e1⟩
      obtain ⟨qy, hqy, ay⟩ := hqs.at_ hy
      have zy := zq qy (List.mem_of_getElem? hqy)
      walk_at "go"
      refine r_while (fun c σ H2 => ∃ (n : Nat) (zs : List V) (rs : List Rat), c = ps.length - n ∧ σ = [some (V.ref a), some (V.ref b), some (V.ref D), some (V.int (n : Int)), some y] ∧ n ≤ ps.length ∧ H2 D = some (.lst zs) ∧ Ams K H2 zs rs ∧ Mid ps qs n j rs ∧ Ext [] H H2)
        (ps.length - n) ⟨n, zs, rs, rfl, rfl, hn, hz, hr, m, e1⟩ ?_
      clear hz hr m e1 hn n zs rs
      rintro c σ H2 ⟨n, zs, rs, rfl, rfl, hn, hz, hr, m, e1⟩
      have lx := hps.1
      have lz : zs.length ≤ 3000 := by
        have h1 := m.perm.length_eq
        rw [List.length_append, List.length_take, List.length_take] at h1
        have h2 := hr.1
        omega
      have fin : ∀ (_ : ∀ x, ps[n]? = some x → qy ≤ x) (H3 : Hp), Ext [] H2 H3 → H3 D = some (.lst zs) → Ams K H3 zs rs → 
          ∃ (n' : Nat) (zs' : List V) (rs' : List Rat) (u : Option V), [some (V.ref a), some (V.ref b), some (V.ref D), some (V.int (n : Int)), some y] = [some (V.ref a), some (V.ref b), some (V.ref D), some (V.int (n' : Int)), u] ∧ n' ≤ ps.length ∧ upd H3 D (.lst (zs ++ [y])) D = some (.lst zs') ∧ Ams K (upd H3 D (.lst (zs ++ [y]))) zs' rs' ∧ Mid ps qs n' (j + 1) rs' ∧ Ext [] H (upd H3 D (.lst (zs ++ [y]))) := by
        intro hx H3 e3 hz3 hr3
        have S3 : ∀ c ∈ [D], ∃ l, H3 c = some (.lst l) := fun c hc => by rw [List.mem_singleton.mp hc]; exact ⟨_, hz3⟩
        have e4 : Ext [D] H3 (upd H3 D (.lst (zs ++ [y]))) := Ext.refl.at_ List.mem_cons_self
        exact ⟨n, zs ++ [y], rs ++ [qy], some y, rfl, hn, upd_same, (hr3.x e4 S3).app (Ams.cons ((hqs.2 j y qy hy hqy |>.x0 (e1.trans e3)).x e4 S3) Ams.nil), m.snd ap aq hqy hx, (e1.trans e3).own hD⟩
      walk_at "go"
      try refine r_len (.inl (lst0 e1 ha)) ?_
      walk_at "go"
      refine r_dec (fun hlt => ?_) (fun hge => ?_)
      · have hlt' : n < ps.length := by omega
        have hxx := List.getElem?_eq_getElem (show n < xs.length by omega)
        generalize xs[n]'(by omega) = x at hxx
        obtain ⟨qx, hqx, ax⟩ := hps.at_ hxx
        have zx := zp qx (List.mem_of_getElem? hqx)
        walk_at "go"
        refine r_ixL (lst0 e1 ha) (at_n rfl hxx) ?_
        walk_at "go"
        refine k_cmp (ax.x0 e1) ((hqs.2 j y qy hy hqy).x0 e1) zx zy ?_
        walk_at "go"
        refine r_dec (fun hle => ?_) (fun hgt => ?_)
        · refine ⟨fun σ' H' => ∃ (zs : List V) (rs : List Rat), σ' = [some (V.ref a), some (V.ref b), some (V.ref D), some (V.int ((n + 1 : Nat) : Int)), some y] ∧ H' D = some (.lst zs) ∧ Ams K H' zs rs ∧ Mid ps qs (n + 1) j rs ∧ Ext [] H H', ?_, ?_⟩
          · rintro σ' H' ⟨zs, rs, rfl, h1, h2, h3, h4⟩
            exact ⟨ps.length - (n + 1), by omega, n + 1, zs, rs, rfl, rfl, hlt', h1, h2, h3, h4⟩
          · walk_at "go"
            refine ⟨ty_lst hz, ?_⟩
            walk_at "go"
            refine r_ixL (lst0 e1 ha) (at_n rfl hxx) ?_
            walk_at "go"
            try refine r_app hz (by omega) ?_
            walk_at "go"
            have S3 : ∀ c ∈ [D], ∃ l, H2 c = some (.lst l) := fun c hc => by rw [List.mem_singleton.mp hc]; exact ⟨_, hz⟩
            have e4 : Ext [D] H2 (upd H2 D (.lst (zs ++ [x]))) := Ext.refl.at_ List.mem_cons_self
            exact ⟨zs ++ [x], rs ++ [qx], rfl, upd_same, (hr.x e4 S3).app (Ams.cons ((ax.x0 e1).x e4 S3) Ams.nil), m.fst ap aq hqx hqy (cmpQ_le.mp hle), e1.own hD⟩
        · walk_at "go"
          refine ⟨ty_lst hz, ?_⟩
          walk_at "go"
          try refine r_app hz (by omega) ?_
          walk_at "go"
          refine fin (fun x hx => ?_) H2 Ext.refl hz hr
          rw [hqx] at hx
          cases hx
          have h := fun z => hgt (cmpQ_le.mpr z)
          exact Rat.not_lt.mp fun z => h (by grind)
      · walk_at "run"
        refine ⟨ty_lst hz, ?_⟩
        walk_at "go"
        try refine r_app hz (by omega) ?_
        walk_at "go"
        refine fin (fun x hx => ?_) H2 Ext.refl hz hr
        have := (List.getElem?_eq_some_iff.mp hx).1
        omega
    · rintro σ H1 ⟨n, zs, rs, u, rfl, hn, hz, hr, m, e1⟩
      have lx := hps.1
      have ly := hqs.1
      rw [ly] at m
      have lz : zs.length ≤ 3000 := by
        have h1 := m.perm.length_eq
        rw [List.length_append, List.length_take, List.length_take] at h1
        have h2 := hr.1
        omega
      walk_at "go"
      refine r_slList (lst0 e1 ha) fun p hp => ?_
      rw [cut_drop (by omega)]
      refine ⟨D, p, zs, xs.drop n, rfl, rfl, by rw [upd_ne (ne_of_none hz hp)]; exact hz, upd_same, Nat.le_trans (by rw [List.length_drop]; omega : zs.length + (xs.drop n).length ≤ 4000) (by decide), fun c hc => ?_⟩
      obtain ⟨m1, m2⟩ := m.done ap
      have e2 := (e1.new (o := .lst (xs.drop n)) hp).new (o := .lst (zs ++ xs.drop n)) hc
      have e3 := ((Ext.refl (S := []) (H := H1)).new (o := .lst (xs.drop n)) hp).new (o := .lst (zs ++ xs.drop n)) hc
      exact k c _ _ _ upd_same ((hr.x0 e3).app ((hps.drop n).x0 e2)) m1 m2 e2
def spAsc (K : PySem.W.Frag) : Nat → Sp
  | 0 => fun _ _ _ _ => False
  | n + 1 => fun vs H Q _ => ∃ (a : Addr) (xs : List V) (ps : List Rat), vs = [.ref a] ∧ SqL K H a xs ∧ Ams K H xs ps ∧ (∀ q ∈ ps, Sz 4000 q) ∧ ps.length ≤ 2 ^ n ∧ ps.length ≤ 500 ∧
    ∀ (c : Addr) (zs : List V) (rs : List Rat) H', H' c = some (.lst zs) → Ams K H' zs rs → rs.Perm ps → Asc rs → Ext [] H H' → Q (.ref c) H'
abbrev s_ascending : Stmt := top 26
theorem c_ascending : FnScope ["heights", "middle"] ["heights"] (defScope s_ascending) := ⟨rfl, rfl, rfl, by decide +kernel, rfl, by decide +kernel, by decide +kernel⟩
theorem f_ascending (F : FunD K "_ascending" "_ascending" (defArgs s_ascending) (defBody s_ascending) (defScope s_ascending) [] [] f fd) (hm : mg "_ascending" = some (.ref f)) (T : Bt mg) (n : Nat) (F_ascending : Fn P w K mg base (n + 2) "_ascending" (spAsc K n)) (F_merged : Fn P w K mg base 2 "_merged" (spMerged K)) : Fn P w K mg base (n+3) "_ascending" (spAsc K (n + 1)) := by
  refine fn_def F hm c_ascending (fun vs H Q E h => ?_) (fun _ _ _ _ _ _ us hl => match us, hl with | [_], _ => rfl) (fun cdv A outer s H vs Q E hr h => ?_)
  · obtain ⟨a, xs, ps, rfl, _⟩ := h
    rfl
  · obtain ⟨a, xs, ps, rfl, ha, hps, zp, l2, l5, k⟩ := h
    have nd := c_ascending.nd
    refine ⟨_, (pss_cons (ps_if (pt_cmpR op_lt (pe_callB cr_len (by rfl) T.len (by decide +kernel) (pa_cons (pv 0) pa_nil)) pe_int (nomark _))
        (pss_one (ps_ret (pe_callTy cr_list (by rfl) T.list (by decide +kernel) (pa_cons (pv 0) pa_nil))))
        pss_nil)
      (pss_cons (ps_set (i := 1) nd rfl (by first | exact Or.inl rfl | exact Or.inr rfl) (pe_op op_fdivW (pe_callB cr_len (by rfl) T.len (by decide +kernel) (pa_cons (pv 0) pa_nil)) pe_int))
      (pss_one (ps_ret (pe_fn F_merged (hr.mono (by omega)) (pa_cons (pe_fn F_ascending (hr.mono (Nat.le_refl _)) (pa_cons (pe_slice sl_list (pv 0) po_none (po_some (pv 1))) pa_nil)) (pa_cons (pe_fn F_ascending (hr.mono (Nat.le_refl _)) (pa_cons (pe_slice sl_list (pv 0) (po_some (pv 1)) po_none) pa_nil)) pa_nil))))))), ?_⟩
    show (_ : TS) _ [some _, none] _
    try dsimp only [cxOf, Cx.nox]
    have lx := hps.1
    walk_at "go"
    try refine r_len (.inl ha) ?_
    walk_at "go"
    refine r_dec (fun hlt => ?_) (fun hge => ?_)
    · walk_at "go"
      refine r_list (.inl ha) fun c hc => ?_
      walk_at "go"
      refine k c xs ps _ upd_same (hps.x0 (Ext.refl.new hc)) (List.Perm.refl _) ?_ (Ext.refl.new hc)
      match ps, lx with
      | [], _ => exact List.Pairwise.nil
      | [q], _ => exact List.pairwise_singleton _ _
      | _ :: _ :: _, h => simp at h; omega
    · walk_at "go"
      have hn : 1 ≤ n := by
        cases n with
        | zero => omega
        | succ n => omega
      obtain ⟨n, rfl⟩ : ∃ m, n = m + 1 := ⟨n - 1, by omega⟩
      have h2 : (2 : Nat) ^ (n + 1) = 2 * 2 ^ n := by rw [Nat.pow_succ]; omega
      have ed : (xs.length : Int) / 2 = ((xs.length / 2 : Nat) : Int) := by omega
      rw [ed]
      refine r_slList ha fun p hp => ?_
      rw [cut_take (by omega)]
      walk_at "go"
      have hs1 := hps.x0 (Ext.refl.new (o := .lst (xs.take (xs.length / 2))) hp)
      refine ⟨p, _, ps.take (xs.length / 2), rfl, lstS, hs1.take _, fun q hq => zp q (List.mem_of_mem_take hq), by rw [List.length_take]; omega, by rw [List.length_take]; omega, fun c1 zs1 rs1 H1 hc1 ha1 p1 as1 e1 => ?_⟩
      walk_at "go"
      have e01 := (Ext.refl.new (o := .lst (xs.take (xs.length / 2))) hp).trans e1
      refine r_slList (lst0 e01 ha) fun p' hp' => ?_
      rw [cut_drop (by omega)]
      walk_at "go"
      have e02 := e01.new (o := .lst (xs.drop (xs.length / 2))) hp'
      refine ⟨p', _, ps.drop (xs.length / 2), rfl, lstS, (hps.x0 e02).drop _, fun q hq => zp q (List.mem_of_mem_drop hq), by rw [List.length_drop]; omega, by rw [List.length_drop]; omega, fun c2 zs2 rs2 H2 hc2 ha2 p2 as2 e2 => ?_⟩
      walk_at "go"
      have e12 := (Ext.refl.new (S := []) (o := .lst (xs.drop (xs.length / 2))) hp').trans e2
      have zp1 : ∀ q ∈ rs1, Sz 4000 q := fun q hq => zp q (List.mem_of_mem_take (p1.subset hq))
      have zp2 : ∀ q ∈ rs2, Sz 4000 q := fun q hq => zp q (List.mem_of_mem_drop (p2.subset hq))
      have n1 := p1.length_eq
      have n2 := p2.length_eq
      rw [List.length_take] at n1
      rw [List.length_drop] at n2
      refine ⟨c1, c2, zs1, zs2, rs1, rs2, rfl, lst0 e12 (.inl (.inl hc1)), .inl (.inl hc2), ha1.x0 e12, ha2, as1, as2, zp1, zp2, by omega, by omega, fun c zs rs H3 hc h3 p3 as3 e3 => ?_⟩
      walk_at "go"
      refine k c zs rs H3 hc h3 (p3.trans ?_) as3 (((Ext.refl.new hp).trans e1).trans (e12.trans e3))
      have := p1.append p2
      rw [List.take_append_drop] at this
      exact this
end
end Yk

set_option maxHeartbeats 4000000
namespace Yk
open PySem PySem.Spec PyProof.Rows L2

def pbrk (r : Row) : List Rat := match r.man with
  | none => []
  | some (l, m) => [l / (r.w : Rat), m / (r.w : Rat), r.b]
def allBrk (rows : List Row) (top : Rat) : List Rat := (0 :: top :: rows.flatMap pbrk).filter fun q => decide (q ≤ top)
structure LevOk (D E M B : Nat) (rows : List Row) (goal top : Rat) : Prop where
  D0 : 0 < D
  row : ∀ r ∈ rows, RowOk D M r
  n : rows.length ≤ 10
  de : D * 27720 ∣ E
  E0 : 0 < E
  E9 : E ≤ 2 ^ 140
  B9 : B ≤ 2 ^ 24
  MB : 10 * M ≤ B
  goal : In E B goal
  top : In E M top
section
variable {D E M B : Nat} {rows : List Row} {goal top : Rat}
theorem LevOk.rowE (h : LevOk D E M B rows goal top) : ∀ r ∈ rows, RowOk E M r := fun r hr => (h.row r hr).up (Nat.dvd_trans (Nat.dvd_mul_right _ _) h.de)
theorem LevOk.brk (h : LevOk D E M B rows goal top) : ∀ r ∈ rows, ∀ p ∈ pbrk r, In E M p := fun r hr p hp => by
  have h1 := in_brk (h.row r hr)
  unfold pbrk at hp
  unfold Row.brk at h1
  split at hp
  · cases hp
  · rename_i l m e
    rw [e] at h1
    exact (h1 p hp).up h.de
theorem LevOk.all (h : LevOk D E M B rows goal top) : ∀ p ∈ allBrk rows top, In E M p ∧ p ≤ top := fun p hp => by
  obtain ⟨h1, h2⟩ := List.mem_filter.mp hp
  have h3 : p ≤ top := of_decide_eq_true h2
  refine ⟨?_, h3⟩
  rcases List.mem_cons.mp h1 with rfl | h1
  · exact In.zero
  · rcases List.mem_cons.mp h1 with rfl | h1
    · exact h.top
    · obtain ⟨r, hr, hp⟩ := List.mem_flatMap.mp h1
      exact h.brk r hr p hp
theorem LevOk.tot (h : LevOk D E M B rows goal top) {X N : Nat} {x : Rat} (hx : In X N x) (he : E ∣ X) : In X B (tot rows x) :=
  (tot_in hx fun r hr => (h.rowE r hr).up he).most (Nat.le_trans (Nat.mul_le_mul_right M h.n) h.MB)
theorem LevOk.M9 (h : LevOk D E M B rows goal top) : M ≤ 2 ^ 24 := by have := h.MB; have := h.B9; omega
theorem zero_mem (h : LevOk D E M B rows goal top) : (0 : Rat) ∈ allBrk rows top := List.mem_filter.mpr ⟨List.mem_cons_self, decide_eq_true h.top.nn⟩
theorem top_mem : top ∈ allBrk rows top := List.mem_filter.mpr ⟨List.mem_cons_of_mem _ List.mem_cons_self, decide_eq_true Rat.le_refl⟩
/-- where the goal is reached first -/
structure First (T : Rat → Rat) (goal : Rat) (rs : List Rat) (n : Nat) : Prop where
  le : n ≤ rs.length
  lo : ∀ k q, n = k + 1 → rs[k]? = some q → T q < goal
  hi : ∀ q, rs[n]? = some q → goal ≤ T q
variable {rs : List Rat} {n : Nat}
theorem first_top (h : LevOk D E M B rows goal top) (p : rs.Perm (allBrk rows top)) (as : Asc rs) (f : First (Yk.tot rows) goal rs rs.length) : IsLev (Yk.tot rows) top goal top := by
  refine lev_top (fun x y => tot_mono rows) h.top.nn ?_
  obtain ⟨i, hi⟩ := List.getElem?_of_mem (p.symm.subset (top_mem (rows := rows) (top := top)))
  have hil := (List.getElem?_eq_some_iff.mp hi).1
  have hk := List.getElem?_eq_getElem (show rs.length - 1 < rs.length by omega)
  have h1 := asc_get as hi hk (by omega)
  have h2 := (h.all _ (p.subset (List.mem_of_getElem? hk))).2
  have e : rs[rs.length - 1]'(by omega) = top := by grind
  rw [e] at hk
  exact f.lo (rs.length - 1) top (by omega) hk
theorem first_zero (h : LevOk D E M B rows goal top) (p : rs.Perm (allBrk rows top)) (as : Asc rs) (f : First (Yk.tot rows) goal rs 0) {q : Rat} (hq : rs[0]? = some q) : q = 0 ∧ IsLev (Yk.tot rows) top goal 0 := by
  obtain ⟨i, hi⟩ := List.getElem?_of_mem (p.symm.subset (zero_mem h))
  have h1 := asc_get as hq hi (Nat.zero_le _)
  have h2 := (h.all q (p.subset (List.mem_of_getElem? hq))).1.nn
  have e : q = 0 := by grind
  subst e
  exact ⟨rfl, lev_zero h.top.nn (f.hi _ hq)⟩
theorem first_mid (h : LevOk D E M B rows goal top) (p : rs.Perm (allBrk rows top)) (as : Asc rs) (f : First (Yk.tot rows) goal rs (n + 1)) {l u : Rat} (hl : rs[n]? = some l) (hu : rs[n + 1]? = some u) :
    Yk.tot rows l < goal ∧ goal ≤ Yk.tot rows u ∧ In E M l ∧ In E M u ∧ l ≤ u ∧ u ≤ top ∧ Lin (Yk.tot rows) l u := by
  have hlu := asc_get as hl hu (by omega)
  have il := h.all l (p.subset (List.mem_of_getElem? hl))
  have iu := h.all u (p.subset (List.mem_of_getElem? hu))
  refine ⟨f.lo n l rfl hl, f.hi u hu, il.1, iu.1, hlu, iu.2, lin_tot rows (fun r hr => (h.row r hr).w0) hlu fun r hr hm q hq => ?_⟩
  by_cases hqt : q ≤ top
  · have hq2 : q ∈ pbrk r := by
      unfold pbrk
      unfold Row.brk at hq
      split
      · rename_i e
        exact absurd e hm
      · rename_i l m e
        rw [e] at hq
        exact hq
    have hqa : q ∈ allBrk rows top := List.mem_filter.mpr ⟨List.mem_cons_of_mem _ (List.mem_cons_of_mem _ (List.mem_flatMap.mpr ⟨r, hr, hq2⟩)), decide_eq_true hqt⟩
    obtain ⟨i, hi⟩ := List.getElem?_of_mem (p.symm.subset hqa)
    rcases Nat.lt_or_ge n i with hni | hni
    · exact .inr (asc_get as hu hi hni)
    · exact .inl (asc_get as hi hl hni)
  · have := iu.2
    exact .inr (by grind)
end
section
variable {P : Program} {w : World} {K : PySem.W.Frag} {mg : Str → Option Value} {base : Heap} {f : Addr} {fd : FuncData}
def spBreaks (K : PySem.W.Frag) : Sp := fun vs H Q _ => ∃ (a : Addr) (t : V) (xs : List V) (rows : List Row) (D E M B : Nat) (goal top : Rat), vs = [.ref a, t] ∧ SqQ K H a xs ∧ RowsIs K H xs rows ∧ Am K H t top ∧ LevOk D E M B rows goal top ∧
  ∀ (c : Addr) (zs : List V) (rs : List Rat) H', H' c = some (.lst zs) → Ams K H' zs rs → rs.Perm (allBrk rows top) → Asc rs → Ext [] H H' → Q (.ref c) H'
theorem flat_take {rows : List Row} {i : Nat} {r : Row} (h : rows[i]? = some r) : (rows.take (i + 1)).flatMap pbrk = (rows.take i).flatMap pbrk ++ pbrk r := by
  obtain ⟨hl, e⟩ := List.getElem?_eq_some_iff.mp h
  rw [← List.take_append_getElem hl, List.flatMap_append, e]
  simp
theorem pbrk_len (r : Row) : (pbrk r).length ≤ 3 := by unfold pbrk; split <;> simp
theorem flat_len : ∀ (rows : List Row), (rows.flatMap pbrk).length ≤ 3 * rows.length
  | [] => by simp
  | r :: t => by
    have := flat_len t
    have := pbrk_len r
    rw [List.flatMap_cons, List.length_append, List.length_cons]
    omega
theorem k_over' {H : Hp} {Q : VK} {E : XK} {v1 v2 : V} {p : Rat} {wt : Nat} (a1 : Am K H v1 p) (a2 : Am K H v2 (wt : Rat)) (h0 : 0 < wt) (h12 : wt ≤ 12) (z1 : Sz 4000 p) (k : ∀ v H', Ext [] H H' → Am K H' v (p / (wt : Rat)) → Q v H') : spOver K [v1, v2] H Q E :=
  k_over a1 a2 (natP h0) z1 ((sz_nat (m := 4) (by omega) (by decide)).mono (by decide)) k
abbrev s_breaks : Stmt := top 23
theorem c_breaks : FnScope ["wishes", "top", "found", "manner", "weight", "bound", "height"] ["wishes", "top"] (defScope s_breaks) := ⟨rfl, rfl, rfl, by decide +kernel, rfl, by decide +kernel, by decide +kernel⟩
theorem f_breaks (F : FunD K "_breaks" "_breaks" (defArgs s_breaks) (defBody s_breaks) (defScope s_breaks) [] [] f fd) (hm : mg "_breaks" = some (.ref f)) (T : Bt mg) (TZ : ∃ z, mg "ZERO" = some (.ref z) ∧ ∀ H, SqT K H z [.int 0, .int 1]) (Fover : Fn P w K mg base 2 "over" (spOver K)) (Fcompare : Fn P w K mg base 1 "compare" (spCompare K)) (F_ascending : Fn P w K mg base 9 "_ascending" (spAsc K 7)) : Fn P w K mg base 10 "_breaks" (spBreaks K) := by
  refine fn_def F hm c_breaks (fun vs H Q E h => ?_) (fun _ _ _ _ _ _ us hl => match us, hl with | [_, _], _ => rfl) (fun cdv A outer s H vs Q E hr h => ?_)
  · obtain ⟨a, t, xs, rows, D, E, M, B, goal, top, rfl, _⟩ := h
    rfl
  · obtain ⟨a, t, xs, rows, D, E, M, B, goal, top, rfl, ha, hrows, ht, L, k⟩ := h
    have nd := c_breaks.nd
    obtain ⟨z, mz, hz⟩ := TZ
    refine ⟨_, (pss_cons (ps_set (i := 2) nd rfl (by first | exact Or.inl rfl | exact Or.inr rfl) (pe_lst (pa_cons (pe_glob (v := .ref z) rfl mz rfl) (pa_cons (pv 1) pa_nil))))
      (pss_mid (ps_for PassesOwn.never rfl (pi_seq (pv 0)) (pg_tup rfl (pgs_cons (pg_name (i := 3) nd rfl (by first | exact Or.inl rfl | exact Or.inr rfl)) (pgs_cons (pg_name (i := 4) nd rfl (by first | exact Or.inl rfl | exact Or.inr rfl)) (pgs_cons (pg_name (i := 5) nd rfl (by first | exact Or.inl rfl | exact Or.inr rfl)) pgs_nil))))
        (pss_one (ps_if (pt_cmpR (op_neD hr.units) (pv 3) (pe_tup pa_nil) (nomark _))
          (pss_cons (ps_expr (pe_bm PySem.F.plainAttrs_list PySem.F.slot_list_append PySem.F.type_list_append mt_append (pv 2) (pa_cons (pe_fn Fover (hr.mono (by decide)) (pa_cons (pe_ix ix_tup (pv 3) pe_int (fun _ _ => rfl)) (pa_cons (pe_tup (pa_cons (pv 4) (pa_cons pe_int pa_nil))) pa_nil))) pa_nil)))
          (pss_cons (ps_expr (pe_bm PySem.F.plainAttrs_list PySem.F.slot_list_append PySem.F.type_list_append mt_append (pv 2) (pa_cons (pe_fn Fover (hr.mono (by decide)) (pa_cons (pe_ix ix_tup (pv 3) pe_int (fun _ _ => rfl)) (pa_cons (pe_tup (pa_cons (pv 4) (pa_cons pe_int pa_nil))) pa_nil))) pa_nil)))
          (pss_one (ps_expr (pe_bm PySem.F.plainAttrs_list PySem.F.slot_list_append PySem.F.type_list_append mt_append (pv 2) (pa_cons (pv 5) pa_nil))))))
          pss_nil)))
      (pss_one (ps_ret (pe_fn F_ascending (hr.mono (by decide)) (pa_cons (pe_lc (own := [("height", 6)]) (g := gName 6) rfl nd (pi_list (pv 2)) (blkOk_by (N := ["wishes", "top", "found", "manner", "weight", "bound", "height"]) (sc := defScope s_breaks) (by decide +kernel)) (fun _ _ _ _ _ => pg_name (i := 6) nd rfl (Or.inl rfl)) (fun _ _ _ _ _ => (pts_one (pt_cmpR op_le (pe_fn Fcompare (hr.mono (by decide)) (pa_cons (pv 6) (pa_cons (pv 1) pa_nil))) pe_int (nomark _)))) (fun _ _ _ _ _ => (pv 6))) pa_nil)))))), ?_⟩
    show (_ : TS) _ [some _, some _, none, none, none, none, none] _
    try dsimp only [cxOf, Cx.nox]
    walk_at "go"
    rename_i c hc
    have a0 : Am K (upd H c (.lst [.ref z, t])) (.ref z) 0 := ⟨z, rfl, hz _⟩
    have t0 := ht.x0 (Ext.refl.new (o := .lst [.ref z, t]) hc)
    refine r_mid (fun σ' H' => ∃ (zs : List V) (u3 u4 u5 : Option V), σ' = [some (V.ref a), some t, some (V.ref c), u3, u4, u5, none] ∧ H' c = some (.lst zs) ∧ Ams K H' zs (0 :: top :: rows.flatMap pbrk) ∧ Ext [] H H') ?_ ?_
    · have lr := hrows.1
      have nr := L.n
      refine r_forQ (xs := xs) rfl ha (kp0 (Ext.refl.new hc)) (fun i σ' H' => ∃ (zs : List V) (u3 u4 u5 : Option V), σ' = [some (V.ref a), some t, some (V.ref c), u3, u4, u5, none] ∧ H' c = some (.lst zs) ∧ Ams K H' zs (0 :: top :: (rows.take i).flatMap pbrk) ∧ Ext [] H H')
        ⟨_, none, none, none, rfl, upd_same, Ams.cons a0 (Ams.cons t0 Ams.nil), Ext.refl.new hc⟩ ?_ ?_ ?_
      · rintro i σ' H' hi ⟨zs, u3, u4, u5, rfl, h1, h2, e⟩
        exact kp0 e
      · rintro i y σ' H1 hy ⟨zs, u3, u4, u5, rfl, h1, h2, e1⟩
        obtain ⟨r, hr, hrow⟩ := hrows.at_ hy
        have hrm := List.mem_of_getElem? hr
        have ro := L.row r hrm
        have hil := (List.getElem?_eq_some_iff.mp hr).1
        obtain ⟨at_, mv, bv, rfl, htt, hman, hb⟩ := hrow.x0 e1
        have lz : zs.length ≤ 40 := by
          have q1 := h2.1
          have q2 := flat_len (rows.take i)
          rw [List.length_cons, List.length_cons] at q1
          rw [List.length_take] at q2
          omega
        have S : ∀ (l : List V) (H2 : Hp), H2 c = some (.lst l) → ∀ x ∈ [c], ∃ l, H2 x = some (.lst l) := fun l H2 h x hx => by rw [List.mem_singleton.mp hx]; exact ⟨l, h⟩
        have fl := flat_take hr
        walk_at "go"
        refine ne_man (hman.x0 (Ext.refl.new (by assumption))) tupS ?_
        walk_at "go"
        obtain ⟨man, wt, bd⟩ := r
        cases man with
        | none =>
          walk_at "run"
          refine ⟨zs, _, _, _, rfl, by rw [upd_ne (ne_of_none h1 (by assumption))]; exact h1, ?_, e1.new (by assumption)⟩
          rw [fl]
          show Ams K _ zs (0 :: top :: (_ ++ []))
          rw [List.append_nil]
          exact h2.x0 (Ext.refl.new (by assumption))
        | some p =>
          obtain ⟨l, u⟩ := p
          obtain ⟨al, au⟩ := ro.m l u rfl
          have sl : Sz 4000 l := (al.up (Nat.dvd_trans (Nat.dvd_mul_right _ _) L.de)).sz L.E0 L.E9 L.M9 |>.mono (by decide)
          have su : Sz 4000 u := (au.up (Nat.dvd_trans (Nat.dvd_mul_right _ _) L.de)).sz L.E0 L.E9 L.M9 |>.mono (by decide)
          obtain ⟨am, v1, v2, rfl, hm2, a1, a2⟩ := hman
          walk_at "run"
          have h1' : upd H1 _ (.tup []) c = some (.lst zs) := (Ext.refl (S := [])).new (by assumption) _ _ h1 fun z => nomatch z
          have en := (Ext.refl (S := []) (H := H1)).new (o := .tup []) (by assumption)
          generalize upd H1 _ (HO.tup []) = H2 at *
          refine ⟨ty_lst h1', ?_⟩
          walk_at "go"
          refine k_over' (a1.x0 (en.new (by assumption))) (am_nat tupS) ro.w0 ro.w12 sl fun v3 H3 n3 a3 => ?_
          walk_at "go"
          have h3 : H3 c = some (.lst zs) := n3 _ _ (by rw [upd_ne (ne_of_none h1' (by assumption))]; exact h1') fun z => nomatch z
          have e3 := en.trans ((Ext.refl.new (by assumption)).trans n3)
          have am3 := ((h2.x0 e3).w (l' := zs ++ [v3]) h3).app (Ams.cons (a3.w h3) Ams.nil)
          have a23 := (a2.x0 e3).w (l' := zs ++ [v3]) h3
          have hm3 := tupW (l' := zs ++ [v3]) (tup0 e3 hm2) h3
          have b3 := (hb.x0 e3).w (l' := zs ++ [v3]) h3
          have ex3 := (e1.trans e3).own (o := .lst (zs ++ [v3])) hc
          try refine r_app h3 (by omega) ?_
          walk_at "go"
          have h4 : upd H3 c (.lst (zs ++ [v3])) c = some (.lst (zs ++ [v3])) := upd_same
          generalize upd H3 c (HO.lst (zs ++ [v3])) = H4 at *
          refine ⟨ty_lst h4, ?_⟩
          walk_at "go"
          refine k_over' (a23.x0 (Ext.refl.new (by assumption))) (am_nat tupS) ro.w0 ro.w12 su fun v5 H5 n5 a5 => ?_
          walk_at "go"
          have e5 := (Ext.refl.new (S := []) (by assumption)).trans n5
          have h5 : H5 c = some (.lst (zs ++ [v3])) := e5 _ _ h4 fun z => nomatch z
          have lz3 : (zs ++ [v3]).length ≤ 41 := by rw [List.length_append]; exact Nat.add_le_add_right lz 1
          try refine r_app h5 (by omega) ?_
          walk_at "go"
          have am5 := ((am3.x0 e5).w (l' := zs ++ [v3] ++ [v5]) h5).app (Ams.cons (a5.w h5) Ams.nil)
          have b5 := (b3.x0 e5).w (l' := zs ++ [v3] ++ [v5]) h5
          have ex5 := (ex3.trans e5).own (o := .lst (zs ++ [v3] ++ [v5])) hc
          have h6 : upd H5 c (.lst (zs ++ [v3] ++ [v5])) c = some (.lst (zs ++ [v3] ++ [v5])) := upd_same
          generalize upd H5 c (HO.lst (zs ++ [v3] ++ [v5])) = H6 at *
          refine ⟨ty_lst h6, ?_⟩
          walk_at "go"
          have lz5 : (zs ++ [v3] ++ [v5]).length ≤ 42 := by rw [List.length_append]; exact Nat.add_le_add_right lz3 1
          try refine r_app h6 (by omega) ?_
          walk_at "go"
          refine ⟨zs ++ [v3] ++ [v5] ++ [bv], _, _, _, rfl, upd_same, ?_, ex5.own hc⟩
          have am7 := (am5.w (l' := zs ++ [v3] ++ [v5] ++ [bv]) h6).app (Ams.cons (b5.w h6) Ams.nil)
          rw [fl]
          have eq : (0 :: top :: ((rows.take i).flatMap pbrk ++ pbrk ⟨some (l, u), wt, bd⟩)) = 0 :: top :: (rows.take i).flatMap pbrk ++ [l / (wt : Rat)] ++ [u / (wt : Rat)] ++ [bd] := by
            show _ = _
            simp [pbrk]
          rw [eq]
          exact am7
      · rintro σ' H' ⟨zs, u3, u4, u5, rfl, h1, h2, e⟩
        rw [lr, List.take_length] at h2
        exact ⟨zs, u3, u4, u5, rfl, h1, h2, e⟩
    · rintro σ' H1 ⟨zs, u3, u4, u5, rfl, h1, h2, e1⟩
      walk_at "go"
      refine ⟨c, rfl, ⟨_, .inl (.inl h1)⟩, fun d hd => ?_⟩
      have ndc : d ≠ c := fun z => by rw [z, h1] at hd; cases hd
      have lz : zs.length ≤ 40 := by
        have q1 := h2.1
        have q2 := flat_len rows
        have q3 := L.n
        rw [List.length_cons, List.length_cons] at q1
        omega
      have hin : ∀ p ∈ (0 : Rat) :: top :: rows.flatMap pbrk, In E M p := fun p hp => by
        rcases List.mem_cons.mp hp with rfl | hp
        · exact In.zero
        · rcases List.mem_cons.mp hp with rfl | hp
          · exact L.top
          · obtain ⟨r, hr, hp⟩ := List.mem_flatMap.mp hp
            exact L.brk r hr p hp
      refine r_lcL (xs := zs) (fun i H2 => ∃ acc : List V, H2 d = some (.lst acc) ∧ acc.length ≤ i ∧ Ams K H2 acc (((0 :: top :: rows.flatMap pbrk).take i).filter fun q => decide (q ≤ top)) ∧ Ext [] H1 H2)
        ⟨[], upd_same, Nat.le_refl _, Ams.nil, Ext.refl.new hd⟩ ?_ ?_ ?_
      · rintro i H2 hi ⟨acc, q1, q2, q3, q4⟩
        exact .inl (.inl (q4 _ _ h1 fun z => nomatch z))
      · rintro i y H2 hy ⟨acc, q1, q2, q3, q4⟩
        have hil := (List.getElem?_eq_some_iff.mp hy).1
        obtain ⟨q, hq, aq⟩ := h2.at_ hy
        have iq := hin q (List.mem_of_getElem? hq)
        walk_at "go"
        refine ⟨rfl, ?_⟩
        walk_at "go"
        refine k_cmp (aq.x0 q4) (ht.x0 (e1.trans q4)) ((iq.sz L.E0 L.E9 L.M9).mono (by decide)) ((L.top.sz L.E0 L.E9 L.M9).mono (by decide)) ?_
        walk_at "go"
        have tg := take_get hq
        refine r_dec (fun hle => ?_) (fun hgt => ?_)
        · walk_at "go"
          refine ⟨acc, q1, Nat.lt_of_le_of_lt (by omega : acc.length ≤ 4000) (by decide), acc ++ [y], upd_same, by rw [List.length_append]; exact Nat.add_le_add_right q2 1, ?_, q4.own hd⟩
          rw [tg, List.filter_append, show [q].filter (fun q => decide (q ≤ top)) = [q] by simp [cmpQ_le.mp hle]]
          exact (q3.w q1).app (Ams.cons ((aq.x0 q4).w q1) Ams.nil)
        · refine ⟨acc, q1, by omega, ?_, q4⟩
          rw [tg, List.filter_append, show [q].filter (fun q => decide (q ≤ top)) = [] by simpa using fun z => hgt (cmpQ_le.mpr z), List.append_nil]
          exact q3
      · rintro H2 ⟨acc, q1, q2, q3, q4⟩
        walk_at "go"
        have lx := h2.1
        rw [lx, List.take_length] at q3
        have q3 : Ams K H2 acc (allBrk rows top) := q3
        have l3 := q3.1
        refine ⟨d, acc, allBrk rows top, rfl, .inl (.inl q1), q3, fun q hq => ((L.all q hq).1.sz L.E0 L.E9 L.M9).mono (by decide), ?_, ?_, fun c' zs' rs' H' hc' ha' p' as' e' => ?_⟩
        · rw [← l3]
          exact Nat.le_trans (by omega : acc.length ≤ 42) (by decide)
        · rw [← l3]
          omega
        · exact k c' zs' rs' H' hc' ha' p' as' ((e1.trans q4).trans e')
def spFirst (K : PySem.W.Frag) : Sp := fun vs H Q _ => ∃ (g : V) (a c : Addr) (xs zs : List V) (rows : List Row) (rs : List Rat) (D E M B : Nat) (goal top : Rat), vs = [g, .ref a, .ref c] ∧ SqQ K H a xs ∧ RowsIs K H xs rows ∧ Am K H g goal ∧ LevOk D E M B rows goal top ∧ SqL K H c zs ∧ Ams K H zs rs ∧ (∀ q ∈ rs, In E M q) ∧ rs.length ≤ 500 ∧
  ∀ (n : Nat) H', First (tot rows) goal rs n → Ext [] H H' → Q (.int (n : Int)) H'
theorem LevOk.ok {D E M B : Nat} {rows : List Row} {goal top : Rat} (L : LevOk D E M B rows goal top) {q : Rat} (h : In E M q) : TotOk E M M rows q :=
  ⟨L.E0, Nat.le_trans L.E9 (Nat.pow_le_pow_right (by decide) (by decide)), L.M9, Nat.le_trans L.M9 (by decide), L.rowE, h, L.n⟩
abbrev s_first_reaching : Stmt := top 24
theorem c_first_reaching : FnScope ["goal", "wishes", "breaks", "low", "high", "middle"] ["goal", "wishes", "breaks"] (defScope s_first_reaching) := ⟨rfl, rfl, rfl, by decide +kernel, rfl, by decide +kernel, by decide +kernel⟩
theorem f_first_reaching (F : FunD K "_first_reaching" "_first_reaching" (defArgs s_first_reaching) (defBody s_first_reaching) (defScope s_first_reaching) [] [] f fd) (hm : mg "_first_reaching" = some (.ref f)) (T : Bt mg) (Ftotal : Fn P w K mg base 4 "total" (spTotal K)) (Fcompare : Fn P w K mg base 1 "compare" (spCompare K)) : Fn P w K mg base 5 "_first_reaching" (spFirst K) := by
  refine fn_def F hm c_first_reaching (fun vs H Q E h => ?_) (fun _ _ _ _ _ _ us hl => match us, hl with | [_, _, _], _ => rfl) (fun cdv A outer s H vs Q E hr h => ?_)
  · obtain ⟨g, a, c, xs, zs, rows, rs, D, E, M, B, goal, top, rfl, _⟩ := h
    rfl
  · obtain ⟨g, a, c, xs, zs, rows, rs, D, E, M, B, goal, top, rfl, ha, hrows, hg, L, hc, hrs, hin, l5, k⟩ := h
    have nd := c_first_reaching.nd
    refine ⟨_, (pss_cons (ps_set (i := 3) nd rfl (by first | exact Or.inl rfl | exact Or.inr rfl) pe_int)
      (pss_cons (ps_set (i := 4) nd rfl (by first | exact Or.inl rfl | exact Or.inr rfl) (pe_callB cr_len (by rfl) T.len (by decide +kernel) (pa_cons (pv 2) pa_nil)))
      (pss_cons (ps_while PassesOwn.never (pt_cmpR op_lt (pv 3) (pv 4) (nomark _))
        (pss_cons (ps_set (i := 5) nd rfl (by first | exact Or.inl rfl | exact Or.inr rfl) (pe_op op_fdivW (pe_op op_add (pv 3) (pv 4)) pe_int))
        (pss_one (ps_if (pt_cmpR op_lt (pe_fn Fcompare (hr.mono (by decide)) (pa_cons (pe_fn Ftotal (hr.mono (by decide)) (pa_cons (pv 1) (pa_cons (pe_ix ix_list (pv 2) (pv 5) (fun _ _ => rfl)) pa_nil))) (pa_cons (pv 0) pa_nil))) pe_int (nomark _))
          (pss_one (ps_set (i := 3) nd rfl (by first | exact Or.inl rfl | exact Or.inr rfl) (pe_op op_add (pv 5) pe_int)))
          (pss_one (ps_set (i := 4) nd rfl (by first | exact Or.inl rfl | exact Or.inr rfl) (pv 5)))))))
      (pss_one (ps_ret (pv 3)))))), ?_⟩
    show (_ : TS) _ [some _, some _, some _, none, none, none] _
    try dsimp only [cxOf, Cx.nox]
    have lz := hrs.1
    walk_at "go"
    refine r_while (fun m σ H1 => ∃ (lo hi : Nat) (u : Option V), m = hi - lo ∧ σ = [some g, some (V.ref a), some (V.ref c), some (V.int (lo : Int)), some (V.int (hi : Int)), u] ∧ lo ≤ hi ∧ hi ≤ rs.length ∧ (∀ k q, lo = k + 1 → rs[k]? = some q → tot rows q < goal) ∧ (∀ q, rs[hi]? = some q → goal ≤ tot rows q) ∧ Ext [] H H1)
      rs.length ⟨0, rs.length, none, rfl, by rw [← lz]; rfl, Nat.zero_le _, Nat.le_refl _, fun k q z => (nomatch z), fun q z => by simp at z, Ext.refl⟩ ?_
    rintro m σ H1 ⟨lo, hi, u, rfl, rfl, h1, h2, h3, h4, e1⟩
    walk_at "go"
    refine r_dec (fun hlt => ?_) (fun hge => ?_)
    · have ed : ((lo : Int) + (hi : Int)) / 2 = (((lo + hi) / 2 : Nat) : Int) := by omega
      have hm : (lo + hi) / 2 < zs.length := by omega
      have hmz := List.getElem?_eq_getElem hm
      generalize hv : zs[(lo + hi) / 2]'hm = v at hmz
      obtain ⟨q, hq, aq⟩ := hrs.at_ hmz
      have iq := hin q (List.mem_of_getElem? hq)
      refine ⟨fun σ' H' => ∃ (lo' hi' : Nat) (u : Option V), hi' - lo' < hi - lo ∧ σ' = [some g, some (V.ref a), some (V.ref c), some (V.int (lo' : Int)), some (V.int (hi' : Int)), u] ∧ lo' ≤ hi' ∧ hi' ≤ rs.length ∧ (∀ k q, lo' = k + 1 → rs[k]? = some q → tot rows q < goal) ∧ (∀ q, rs[hi']? = some q → goal ≤ tot rows q) ∧ Ext [] H H', ?_, ?_⟩
      · rintro σ' H' ⟨lo', hi', u, z1, z2, z3⟩
        exact ⟨hi' - lo', z1, lo', hi', u, rfl, z2, z3⟩
      · walk_at "go"
        rw [ed]
        refine r_ixL (lst0 e1 hc) (at_n rfl hmz) ?_
        walk_at "go"
        refine ⟨a, xs, rows, v, q, E, M, M, rfl, sqq0 e1 ha, hrows.x0 e1, aq.x0 e1, L.ok iq, fun v2 H2 n2 a2 => ?_⟩
        walk_at "go"
        refine k_cmp a2 (hg.x0 (e1.trans n2)) (((L.tot iq (Nat.dvd_refl _)).sz L.E0 L.E9 L.B9).mono (by decide)) ((L.goal.sz L.E0 L.E9 L.B9).mono (by decide)) ?_
        walk_at "go"
        refine r_dec (fun hl => ?_) (fun hg => ?_)
        · walk_at "go"
          refine ⟨(lo + hi) / 2 + 1, hi, _, by omega, rfl, by omega, h2, fun k q' z1 z2 => ?_, h4, e1.trans n2⟩
          have : k = (lo + hi) / 2 := by omega
          subst this
          rw [hq] at z2
          cases z2
          exact cmpQ_lt.mp hl
        · walk_at "go"
          refine ⟨lo, (lo + hi) / 2, _, by omega, rfl, by omega, by omega, h3, fun q' z2 => ?_, e1.trans n2⟩
          rw [hq] at z2
          cases z2
          exact Rat.not_lt.mp fun z => hg (cmpQ_lt.mpr z)
    · have : lo = hi := by omega
      subst this
      walk_at "go"
      exact k lo H1 ⟨h2, h3, h4⟩ e1
def spOnLine (K : PySem.W.Frag) : Sp := fun vs H Q _ => ∃ (g vl vu : V) (a : Addr) (xs : List V) (rows : List Row) (D E M B : Nat) (goal top l u : Rat), vs = [g, .ref a, vl, vu] ∧ SqQ K H a xs ∧ RowsIs K H xs rows ∧ Am K H g goal ∧ LevOk D E M B rows goal top ∧ Am K H vl l ∧ Am K H vu u ∧ In E M l ∧ In E M u ∧ l ≤ u ∧ tot rows l < goal ∧ goal ≤ tot rows u ∧ RetAm K H Q (onl (tot rows) goal l u)
abbrev s_on_line : Stmt := top 25
theorem c_on_line : FnScope ["goal", "wishes", "left", "right", "start", "rise", "part"] ["goal", "wishes", "left", "right"] (defScope s_on_line) := ⟨rfl, rfl, rfl, by decide +kernel, rfl, by decide +kernel, by decide +kernel⟩
theorem f_on_line (F : FunD K "_on_line" "_on_line" (defArgs s_on_line) (defBody s_on_line) (defScope s_on_line) [] [] f fd) (hm : mg "_on_line" = some (.ref f)) (Ftotal : Fn P w K mg base 4 "total" (spTotal K)) (Fminus : Fn P w K mg base 2 "minus" (spMinus K)) (Fover : Fn P w K mg base 2 "over" (spOver K)) (Ftimes : Fn P w K mg base 2 "times" (spTimes K)) (Fplus : Fn P w K mg base 2 "plus" (spPlus K)) : Fn P w K mg base 5 "_on_line" (spOnLine K) := by
  refine fn_def F hm c_on_line (fun vs H Q E h => ?_) (fun _ _ _ _ _ _ us hl => match us, hl with | [_, _, _, _], _ => rfl) (fun cdv A outer s H vs Q E hr h => ?_)
  · obtain ⟨g, vl, vu, a, xs, rows, D, E, M, B, goal, top, l, u, rfl, _⟩ := h
    rfl
  · obtain ⟨g, vl, vu, a, xs, rows, D, E, M, B, goal, top, l, u, rfl, ha, hrows, hg, L, hl, hu, il, iu, lu, g1, g2, k⟩ := h
    have nd := c_on_line.nd
    refine ⟨_, (pss_cons (ps_set (i := 4) nd rfl (by first | exact Or.inl rfl | exact Or.inr rfl) (pe_fn Ftotal (hr.mono (by decide)) (pa_cons (pv 1) (pa_cons (pv 2) pa_nil))))
      (pss_cons (ps_set (i := 5) nd rfl (by first | exact Or.inl rfl | exact Or.inr rfl) (pe_fn Fminus (hr.mono (by decide)) (pa_cons (pe_fn Ftotal (hr.mono (by decide)) (pa_cons (pv 1) (pa_cons (pv 3) pa_nil))) (pa_cons (pv 4) pa_nil))))
      (pss_cons (ps_set (i := 6) nd rfl (by first | exact Or.inl rfl | exact Or.inr rfl) (pe_fn Fover (hr.mono (by decide)) (pa_cons (pe_fn Fminus (hr.mono (by decide)) (pa_cons (pv 0) (pa_cons (pv 4) pa_nil))) (pa_cons (pv 5) pa_nil))))
      (pss_one (ps_ret (pe_fn Fplus (hr.mono (by decide)) (pa_cons (pv 2) (pa_cons (pe_fn Ftimes (hr.mono (by decide)) (pa_cons (pv 6) (pa_cons (pe_fn Fminus (hr.mono (by decide)) (pa_cons (pv 3) (pa_cons (pv 2) pa_nil))) pa_nil))) pa_nil)))))))), ?_⟩
    show (_ : TS) _ [some _, some _, some _, some _, none, none, none] _
    try dsimp only [cxOf, Cx.nox]
    have tl := L.tot il (Nat.dvd_refl _)
    have tu := L.tot iu (Nat.dvd_refl _)
    have zz : ∀ {q : Rat}, In E B q → Sz 165 q := fun h => h.sz L.E0 L.E9 L.B9
    have zm : ∀ {q : Rat}, In E M q → Sz 165 q := fun h => h.sz L.E0 L.E9 L.M9
    have i1 := L.goal.sub tl (by grind)
    have i2 := tu.sub tl (by grind)
    have i3 := iu.sub il lu
    walk_at "go"
    refine ⟨a, xs, rows, vl, l, E, M, M, rfl, ha, hrows, hl, L.ok il, fun v1 H1 n1 a1 => ?_⟩
    walk_at "go"
    refine ⟨a, xs, rows, vu, u, E, M, M, rfl, sqq0 n1 ha, hrows.x0 n1, hu.x0 n1, L.ok iu, fun v2 H2 n2 a2 => ?_⟩
    walk_at "go"
    refine k_minus a2 (a1.x0 n2) (by grind) ((zz tu).mono (by decide)) ((zz tl).mono (by decide)) fun v3 H3 n3 a3 => ?_
    walk_at "go"
    have e3 := (n1.trans n2).trans n3
    refine k_minus (hg.x0 e3) ((a1.x0 n2).x0 n3) (by grind) ((zz L.goal).mono (by decide)) ((zz tl).mono (by decide)) fun v4 H4 n4 a4 => ?_
    walk_at "go"
    have r0 : 0 < tot rows u - tot rows l := by grind
    refine k_over a4 (a3.x0 n4) r0 ((zz i1).mono (by decide)) ((zz i2).mono (by decide)) fun v5 H5 n5 a5 => ?_
    walk_at "go"
    have e5 := (e3.trans n4).trans n5
    refine k_minus (hu.x0 e5) (hl.x0 e5) lu ((zm iu).mono (by decide)) ((zm il).mono (by decide)) fun v6 H6 n6 a6 => ?_
    walk_at "go"
    have z5 : Sz 330 ((goal - tot rows l) / (tot rows u - tot rows l)) := sz_div (zz i1) (zz i2) r0
    refine k_times (a5.x0 n6) a6 (z5.mono (by decide)) ((zm i3).mono (by decide)) fun v7 H7 n7 a7 => ?_
    walk_at "go"
    have e7 := (e5.trans n6).trans n7
    refine k_plus2 (hl.x0 e7) a7 ((zm il).mono (by decide)) ((sz_mul z5 (zm i3)).mono (by decide)) fun v8 H8 n8 a8 => ?_
    walk_at "go"
    refine k v8 H8 (e7.trans n8) ?_
    have eq : l + (goal - tot rows l) / (tot rows u - tot rows l) * (u - l) = onl (tot rows) goal l u := by
      unfold onl
      grind
    rw [← eq]
    exact a8
end
end Yk

set_option maxHeartbeats 4000000
namespace Yk
open PySem PySem.Spec PyProof.Rows L2

section
variable {P : Program} {w : World} {K : PySem.W.Frag} {mg : Str → Option Value} {base : Heap} {f : Addr} {fd : FuncData}
def RetLev (K : PySem.W.Frag) (H : Hp) (Q : VK) (E M : Nat) (rows : List Row) (goal top : Rat) : Prop := ∀ v y X H', IsLev (tot rows) top goal y → 0 < X → E ∣ X → X ≤ 2 ^ 310 → In X M y → Ext [] H H' → Am K H' v y → Q v H'
def spLeast (K : PySem.W.Frag) : Sp := fun vs H Q _ => ∃ (g t : V) (a : Addr) (xs : List V) (rows : List Row) (D E M B : Nat) (goal top : Rat), vs = [g, .ref a, t] ∧ SqQ K H a xs ∧ RowsIs K H xs rows ∧ Am K H g goal ∧ Am K H t top ∧ LevOk D E M B rows goal top ∧ RetLev K H Q E M rows goal top
theorem e_le_220 {E : Nat} (h : E ≤ 2 ^ 140) : E ≤ 2 ^ 310 := Nat.le_trans h (by decide)
theorem onl_lev {D E M B : Nat} {rows : List Row} {goal top l u : Rat} (L : LevOk D E M B rows goal top) (g1 : tot rows l < goal) (g2 : goal ≤ tot rows u) (il : In E M l) (iu : In E M u) (lu : l ≤ u) (ut : u ≤ top) (hl : Lin (tot rows) l u) :
    IsLev (tot rows) top goal (onl (tot rows) goal l u) ∧ ∃ X, 0 < X ∧ E ∣ X ∧ X ≤ 2 ^ 310 ∧ In X M (onl (tot rows) goal l u) := by
  refine ⟨(lev_line (fun x y => tot_mono rows) il.nn lu ut hl g1 g2).1, ?_⟩
  obtain ⟨X, h1, h2, h3, h4, _⟩ := In.onl L.E0 L.goal (L.tot il (Nat.dvd_refl _)) (L.tot iu (Nat.dvd_refl _)) il iu g1 g2 lu
  refine ⟨X, h1, h2, Nat.le_trans h3 (Nat.le_trans (Nat.mul_le_mul L.E9 (Nat.mul_le_mul L.B9 L.E9)) (by decide)), h4⟩
abbrev s_least_reaching : Stmt := top 22
theorem c_least_reaching : FnScope ["goal", "wishes", "top", "breaks", "at"] ["goal", "wishes", "top"] (defScope s_least_reaching) := ⟨rfl, rfl, rfl, by decide +kernel, rfl, by decide +kernel, by decide +kernel⟩
theorem f_least_reaching (F : FunD K "_least_reaching" "_least_reaching" (defArgs s_least_reaching) (defBody s_least_reaching) (defScope s_least_reaching) [] [] f fd) (hm : mg "_least_reaching" = some (.ref f)) (T : Bt mg) (F_breaks : Fn P w K mg base 10 "_breaks" (spBreaks K)) (F_first_reaching : Fn P w K mg base 5 "_first_reaching" (spFirst K)) (F_on_line : Fn P w K mg base 5 "_on_line" (spOnLine K)) : Fn P w K mg base 11 "_least_reaching" (spLeast K) := by
  refine fn_def F hm c_least_reaching (fun vs H Q E h => ?_) (fun _ _ _ _ _ _ us hl => match us, hl with | [_, _, _], _ => rfl) (fun cdv A outer s H vs Q E hr h => ?_)
  · obtain ⟨g, t, a, xs, rows, D, E, M, B, goal, top, rfl, _⟩ := h
    rfl
  · obtain ⟨g, t, a, xs, rows, D, E, M, B, goal, top, rfl, ha, hrows, hg, ht, L, k⟩ := h
    have nd := c_least_reaching.nd
    refine ⟨_, (pss_cons (ps_set (i := 3) nd rfl (by first | exact Or.inl rfl | exact Or.inr rfl) (pe_fn F_breaks (hr.mono (by decide)) (pa_cons (pv 1) (pa_cons (pv 2) pa_nil))))
      (pss_cons (ps_set (i := 4) nd rfl (by first | exact Or.inl rfl | exact Or.inr rfl) (pe_fn F_first_reaching (hr.mono (by decide)) (pa_cons (pv 0) (pa_cons (pv 1) (pa_cons (pv 3) pa_nil)))))
      (pss_cons (ps_if (pt_cmpR op_eq (pv 4) (pe_callB cr_len (by rfl) T.len (by decide +kernel) (pa_cons (pv 3) pa_nil)) (nomark _))
        (pss_one (ps_ret (pv 2)))
        pss_nil)
      (pss_cons (ps_if (pt_cmpR op_eq (pv 4) pe_int (nomark _))
        (pss_one (ps_ret (pe_ix ix_list (pv 3) pe_int (fun _ _ => rfl))))
        pss_nil)
      (pss_one (ps_ret (pe_fn F_on_line (hr.mono (by decide)) (pa_cons (pv 0) (pa_cons (pv 1) (pa_cons (pe_ix ix_list (pv 3) (pe_op op_sub (pv 4) pe_int) (fun _ _ => rfl)) (pa_cons (pe_ix ix_list (pv 3) (pv 4) (fun _ _ => rfl)) pa_nil))))))))))), ?_⟩
    show (_ : TS) _ [some _, some _, some _, none, none] _
    try dsimp only [cxOf, Cx.nox]
    walk_at "go"
    refine ⟨a, t, xs, rows, D, E, M, B, goal, top, rfl, ha, hrows, ht, L, fun c zs rs H1 hc hrs p as n1 => ?_⟩
    walk_at "go"
    have lz := hrs.1
    have l5 : rs.length ≤ 500 := by
      have h1 := p.length_eq
      have h2 : (allBrk rows top).length ≤ (0 :: top :: rows.flatMap pbrk).length := List.length_filter_le _ _
      have h3 := flat_len rows
      have h4 := L.n
      rw [List.length_cons, List.length_cons] at h2
      omega
    refine ⟨g, a, c, xs, zs, rows, rs, D, E, M, B, goal, top, rfl, sqq0 n1 ha, hrows.x0 n1, hg.x0 n1, L, .inl (.inl hc), hrs, fun q hq => (L.all q (p.subset hq)).1, l5, fun n H2 hf n2 => ?_⟩
    have e2 := n1.trans n2
    have hc2 : H2 c = some (.lst zs) := n2 _ _ hc fun z => nomatch z
    have hr2 := hrs.x0 n2
    walk_at "go"
    refine r_len (.inl (.inl (.inl hc2))) ?_
    walk_at "go"
    by_cases hn : n = rs.length
    · subst hn
      refine r_true (len_is (n := rs.length) (k := (zs.length : Int)) (by omega)) ?_
      walk_at "go"
      exact k t top E H2 (first_top L p as hf) L.E0 (Nat.dvd_refl _) (e_le_220 L.E9) L.top e2 (ht.x0 e2)
    · refine r_false (len_not (k := (zs.length : Int)) (by omega)) ?_
      walk_at "go"
      cases n with
      | zero =>
        refine r_true rfl ?_
        walk_at "go"
        have h0 : 0 < zs.length := by omega
        have hz := List.getElem?_eq_getElem h0
        obtain ⟨q, hq, aq⟩ := hr2.at_ hz
        obtain ⟨rfl, lv⟩ := first_zero L p as hf hq
        refine r_ixL (.inl (.inl hc2)) (at_n (n := 0) rfl hz) ?_
        exact k _ 0 E H2 lv L.E0 (Nat.dvd_refl _) (e_le_220 L.E9) In.zero e2 aq
      | succ n =>
        refine r_false (len_not (k := 0) (by omega)) ?_
        walk_at "go"
        have hl := hf.le
        have hz1 := List.getElem?_eq_getElem (show n < zs.length by omega)
        have hz2 := List.getElem?_eq_getElem (show n + 1 < zs.length by omega)
        generalize zs[n]'(by omega) = v1 at hz1
        generalize zs[n + 1]'(by omega) = v2 at hz2
        obtain ⟨q1, hq1, aq1⟩ := hr2.at_ hz1
        obtain ⟨q2, hq2, aq2⟩ := hr2.at_ hz2
        obtain ⟨g1, g2, il, iu, lu, ut, lin⟩ := first_mid L p as hf hq1 hq2
        obtain ⟨lv, X, x0, x1, x2, x3⟩ := onl_lev L g1 g2 il iu lu ut lin
        refine r_ixL (.inl (.inl hc2)) (at_n (n := n) (by omega) hz1) ?_
        walk_at "go"
        refine r_ixL (.inl (.inl hc2)) (at_n (n := n + 1) rfl hz2) ?_
        walk_at "go"
        exact ⟨g, v1, v2, a, xs, rows, D, E, M, B, goal, top, q1, q2, rfl, sqq0 e2 ha, hrows.x0 e2, hg.x0 e2, L, aq1, aq2, il, iu, lu, g1, g2, fun v H3 n3 a3 => k v _ X H3 lv x0 x1 x2 x3 (e2.trans n3) a3⟩
def spLevel (K : PySem.W.Frag) : Sp := fun vs H Q _ => ∃ (g : V) (a : Addr) (xs : List V) (rows : List Row) (D E M B : Nat) (goal : Rat), vs = [g, .ref a] ∧ SqQ K H a xs ∧ RowsIs K H xs rows ∧ Am K H g goal ∧ LevOk D E M B rows goal 1000 ∧ RetLev K H Q E M rows goal 1000
/-! the law's own -/
theorem mk_sub {p q : Rat} : mkRat (p.num * q.den - q.num * p.den) (p.den * q.den) = p - q := by
  rw [Rat.sub_def, Rat.normalize_eq_mkRat]
def spLShare (K : PySem.W.Frag) : Sp := fun vs H Q _ => ∃ (m x : V) (r : Row) (q : Rat) (X M N : Nat), vs = [m, .int (r.w : Int), x] ∧ ManIs K H m r.man ∧ Am K H x q ∧ RowOk X M r ∧ In X N q ∧ 0 < X ∧ X ≤ 2 ^ 360 ∧ M ≤ 2 ^ 24 ∧ N ≤ 2 ^ 120 ∧ RetAm K H Q (shq r.man r.w q)
def spLTotal (K : PySem.W.Frag) : Sp := fun vs H Q _ => ∃ (a : Addr) (xs : List V) (rows : List Row) (v : V) (x : Rat) (X M N : Nat), vs = [.ref a, v] ∧ SqL K H a xs ∧ RowsIs K H xs rows ∧ Am K H v x ∧ TotOk X M N rows x ∧ RetAm K H Q (tot rows x)
/-- what the law's own list of breaks must hold -/
structure BrkOk (D E M : Nat) (rows : List Row) (rs : List Rat) : Prop where
  inn : ∀ q ∈ rs, In E M q ∧ q ≤ 1000
  all : ∀ r ∈ rows, r.man ≠ none → ∀ p ∈ r.brk, p ≤ 1000 → p ∈ rs
  z : 0 < rs.length
  n : rs.length ≤ 32
def lbrk (r : Row) : List Rat := r.b :: pbrk' r
where pbrk' (r : Row) : List Rat := match r.man with
  | none => []
  | some (l, m) => [l / (r.w : Rat), m / (r.w : Rat)]
theorem lflat_take {rows : List Row} {i : Nat} {r : Row} (h : rows[i]? = some r) : (rows.take (i + 1)).flatMap lbrk = (rows.take i).flatMap lbrk ++ lbrk r := by
  obtain ⟨hl, e⟩ := List.getElem?_eq_some_iff.mp h
  rw [← List.take_append_getElem hl, List.flatMap_append, e]
  simp
theorem lbrk_len (r : Row) : (lbrk r).length ≤ 3 := by unfold lbrk lbrk.pbrk'; split <;> simp
theorem lflat_len : ∀ (rows : List Row), (rows.flatMap lbrk).length ≤ 3 * rows.length
  | [] => by simp
  | r :: t => by
    have := lflat_len t
    have := lbrk_len r
    rw [List.flatMap_cons, List.length_append, List.length_cons]
    omega
theorem lbrk_brk {r : Row} {p : Rat} (h : p ∈ lbrk r) : p ∈ r.brk := by
  obtain ⟨man, w, b⟩ := r
  cases man with
  | none => simpa [lbrk, lbrk.pbrk', Row.brk] using h
  | some q =>
    obtain ⟨l, m⟩ := q
    simp [lbrk, lbrk.pbrk', Row.brk] at h ⊢
    grind
theorem brk_lbrk {r : Row} {p : Rat} (h : p ∈ r.brk) : p ∈ lbrk r := by
  obtain ⟨man, w, b⟩ := r
  cases man with
  | none => simpa [lbrk, lbrk.pbrk', Row.brk] using h
  | some q =>
    obtain ⟨l, m⟩ := q
    simp [lbrk, lbrk.pbrk', Row.brk] at h ⊢
    grind
theorem brk_ok {D E M : Nat} {rows : List Row} (row : ∀ r ∈ rows, RowOk D M r) (n : rows.length ≤ 10) (de : D * 27720 ∣ E) (m : 1000 ≤ M) : BrkOk D E M rows ((0 :: 1000 :: rows.flatMap lbrk).filter fun q => decide (q ≤ 1000)) := by
  refine ⟨fun q hq => ?_, fun r hr hm p hp hp2 => ?_, ?_, ?_⟩
  · obtain ⟨h1, h2⟩ := List.mem_filter.mp hq
    refine ⟨?_, of_decide_eq_true h2⟩
    rcases List.mem_cons.mp h1 with rfl | h1
    · exact In.zero
    · rcases List.mem_cons.mp h1 with rfl | h1
      · exact In.nat (n := 1000) m
      · obtain ⟨r, hr, hp⟩ := List.mem_flatMap.mp h1
        exact (in_brk (row r hr) q (lbrk_brk hp)).up de
  · exact List.mem_filter.mpr ⟨List.mem_cons_of_mem _ (List.mem_cons_of_mem _ (List.mem_flatMap.mpr ⟨r, hr, brk_lbrk hp⟩)), decide_eq_true hp2⟩
  · exact List.length_pos_of_mem (List.mem_filter.mpr ⟨List.mem_cons_self, decide_eq_true (by decide)⟩)
  · have h2 : ((0 :: 1000 :: rows.flatMap lbrk).filter fun q => decide (q ≤ 1000)).length ≤ (0 :: 1000 :: rows.flatMap lbrk).length := List.length_filter_le _ _
    have h3 := lflat_len rows
    rw [List.length_cons, List.length_cons] at h2
    omega
end
end Yk

set_option maxHeartbeats 4000000
namespace Yk
open PySem PySem.Spec PyProof.Rows L2

section
variable {P : Program} {w : World} {K : PySem.W.Frag} {mg : Str → Option Value} {base : Heap} {f : Addr} {fd : FuncData}
def spLBreaks (K : PySem.W.Frag) : Sp := fun vs H Q _ => ∃ (a : Addr) (xs : List V) (rows : List Row) (D E M : Nat), vs = [.ref a] ∧ SqL K H a xs ∧ RowsIs K H xs rows ∧ (∀ r ∈ rows, RowOk D M r) ∧ rows.length ≤ 10 ∧ D * 27720 ∣ E ∧ 0 < E ∧ E ≤ 2 ^ 140 ∧ M ≤ 2 ^ 24 ∧ 1000 ≤ M ∧
  ∀ (c : Addr) (zs : List V) (rs : List Rat) H', H c = none → H' c = some (.lst zs) → Ams K H' zs rs → BrkOk D E M rows rs → Ext [] H H' → Q (.ref c) H'
theorem pair_div {wt : Nat} {q : Rat} (h : 0 ≤ q) (hw : 0 < wt) : mkRat ((q.num.toNat : Nat) : Int) (q.den * wt) = q / (wt : Rat) := by
  have hn := num_nn h
  have w0 := natP hw
  have d0 := natP q.den_pos
  have e2 : (q.num : Rat) / (q.den : Rat) = q := by rw [← Rat.mkRat_eq_div]; exact Rat.mkRat_self q
  rw [Int.toNat_of_nonneg hn, Rat.mkRat_eq_div]
  push_cast
  grind
theorem lin_brk {D E M : Nat} {rows : List Row} {rs : List Rat} {l u : Rat} (hok : ∀ r ∈ rows, RowOk D M r) (B : BrkOk D E M rows rs) (lu : l ≤ u) (hu : u ≤ 1000) (h : ∀ p ∈ rs, p ≤ l ∨ u ≤ p) : Lin (tot rows) l u :=
  lin_tot rows (fun r hr => (hok r hr).w0) lu fun r hr hm p hp => by
    by_cases h1 : p ≤ 1000
    · exact h p (B.all r hr hm p hp h1)
    · exact .inr (by grind)
def spLLevel (K : PySem.W.Frag) : Sp := fun vs H Q _ => ∃ (g : V) (a : Addr) (xs : List V) (rows : List Row) (D E M B : Nat) (goal : Rat), vs = [g, .ref a] ∧ SqL K H a xs ∧ RowsIs K H xs rows ∧ Am K H g goal ∧ LevOk D E M B rows goal 1000 ∧ RetLev K H Q E M rows goal 1000
theorem m1000 {E M : Nat} (h : In E M 1000) : 1000 ≤ M := by have := h.le; exact_mod_cast this
end
end Yk

set_option maxHeartbeats 4000000
namespace Yk
open PySem PySem.Spec PyProof.Rows L2

section
variable {P : Program} {w : World} {K : PySem.W.Frag} {mg : Str → Option Value} {base : Heap} {f : Addr} {fd : FuncData}
theorem k_bit {H : Hp} {b : Bag} {Q : VK} {E : XK} (hb : BagAt K H b) (k : ∀ v q H', Am K H' v q → In 12 12 q → BagAt K H' b → Ext [b.a] H H' → Q v H') : spBit K [.ref b.a] H Q E :=
  ⟨b, rfl, hb, fun v n d H' hn d0 hd a b' e => k v _ H' a (In.frac d0 hd (by omega)) b' e⟩
theorem of_int {H : Hp} {b : Bag} {l : Addr} {ns : List Int} {Q : VK} {E : XK} (hb : BagAt K H b) (hl : SqL K H l (ns.map V.int)) (hne : b.a ≠ l) (h0 : 0 < ns.length) (h4 : ns.length ≤ 4000) (k : ∀ x H', x ∈ ns → BagAt K H' b → Ext [b.a] H H' → Q (.int x) H') : spOf K [.ref b.a, .ref l] H Q E :=
  ⟨b, l, _, rfl, hb, hl, hne, by rw [List.length_map]; exact h0, by rw [List.length_map]; exact h4, fun i x H' hx hb' e => by
    rw [List.getElem?_map] at hx
    cases e2 : ns[i]? with
    | none => rw [e2] at hx; cases hx
    | some z => rw [e2] at hx; cases hx; exact k z H' (List.mem_of_getElem? e2) hb' e⟩
theorem p9 : (10 : Int) ^ Int.toNat 9 = 1000000000 := by decide
def spGrid (K : PySem.W.Frag) : Sp := fun vs H Q _ => ∃ b, vs = [.ref b.a] ∧ BagAt K H b ∧ ∀ (g : Nat) H', 0 < g → g ≤ 2 ^ 60 → BagAt K H' b → Ext [b.a] H H' → Q (.int (g : Int)) H'
def spFine (K : PySem.W.Frag) : Sp := fun vs H Q _ => ∃ (b : Bag) (g : Nat), vs = [.ref b.a, .int (g : Int)] ∧ BagAt K H b ∧ 0 < g ∧ g ≤ 2 ^ 60 ∧ ∀ v q H', Am K H' v q → In (12 * g) 2001 q → BagAt K H' b → Ext [b.a] H H' → Q v H'
theorem five_in {D : Nat} : ∀ q ∈ ([0, 1, 1000, 1001, 999] : List Rat), In D 2001 q := by
  intro q hq
  simp only [List.mem_cons, List.not_mem_nil, or_false] at hq
  rcases hq with rfl | rfl | rfl | rfl | rfl
  · exact In.zero
  · exact In.nat (n := 1) (by decide)
  · exact In.nat (n := 1000) (by decide)
  · exact In.nat (n := 1001) (by decide)
  · exact In.nat (n := 999) (by decide)
def ManOk (D M : Nat) (man : Option (Rat × Rat)) : Prop := ∀ l u, man = some (l, u) → In D M l ∧ In D M u ∧ l ≤ u
def spWish (K : PySem.W.Frag) : Sp := fun vs H Q _ => ∃ (b : Bag) (g : Nat), vs = [.ref b.a, .int (g : Int)] ∧ BagAt K H b ∧ 0 < g ∧ g ≤ 2 ^ 60 ∧ ∀ v man H', ManIs K H' v man → ManOk (12 * g) 4096 man → BagAt K H' b → Ext [b.a] H H' → Q v H'
theorem man2 {D M : Nat} {l u : Rat} (h1 : In D M l) (h2 : In D M u) (h3 : l ≤ u) : ManOk D M (some (l, u)) := fun l' u' e => by cases e; exact ⟨h1, h2, h3⟩
end
end Yk

set_option maxHeartbeats 4000000
namespace Yk
open PySem PySem.Spec PyProof.Rows L2

structure RowG (D : Nat) (r : Row) : Prop where
  ok : RowOk D 4096 r
  lu : ∀ l u, r.man = some (l, u) → l ≤ u
section
variable {K : PySem.W.Frag} {H H1 : Hp} {Q : VK}
/-! rows as data -/
theorem dp_man {v : V} {man : Option (Rat × Rat)} (h : ManIs K H v man) : ∃ d, Dp K H v d ∧ d.canLay0 = true ∧ d.depth ≤ 2 := by
  cases man with
  | none => obtain ⟨a, rfl, h⟩ := h; exact ⟨.tuple [], .tup h .nil, rfl, by decide⟩
  | some q => obtain ⟨a, v1, v2, rfl, h, a1, a2⟩ := h; exact ⟨_, .tup h (.cons (dp_am a1) (.cons (dp_am a2) .nil)), rfl, by simp [PyData.depth, PyData.depthAll]⟩
theorem dp_row {v : V} {r : Row} (h : RowIs K H v r) : ∃ d, Dp K H v d ∧ d.canLay0 = true ∧ d.depth ≤ 3 := by
  obtain ⟨a, mv, bv, rfl, h, h1, h2⟩ := h
  obtain ⟨d, e1, e2, e3⟩ := dp_man h1
  refine ⟨_, .tup h (.cons e1 (.cons (.int _) (.cons (dp_am h2) .nil))), ?_, ?_⟩
  · simp [PyData.canLay0, PyData.canLayAll0, e2]
  · simp [PyData.depth, PyData.depthAll]
    omega
theorem dp_rows : ∀ {xs : List V} {rows : List Row}, RowsIs K H xs rows → ∃ ds, DpAll K H xs ds ∧ PyData.canLayAll0 ds = true ∧ PyData.depthAll ds ≤ 3 ∧ ds.length = rows.length
  | [], [], _ => ⟨[], .nil, rfl, by simp [PyData.depthAll], rfl⟩
  | v :: xs, rows, h => by
    obtain ⟨r, t, rfl, h1, h2⟩ := Rel.cases h
    obtain ⟨d, a1, a2, a3⟩ := dp_row h1
    obtain ⟨ds, b1, b2, b3, b4⟩ := dp_rows h2
    refine ⟨d :: ds, .cons a1 b1, by simp [PyData.canLayAll0, a2, b2], by simp [PyData.depthAll]; omega, by simp [b4]⟩
  | [], _ :: _, h => absurd h.1 (by simp)
theorem ne_rows {c p : Addr} {xs : List V} {rows : List Row} (h : RowsIs K H xs rows) (hc : SqL K H c xs) (hp : SqL K H p []) (k : Q (.bl (!rows.isEmpty)) H) : rNeD K (.ref c) (.ref p) H Q := by
  obtain ⟨ds, b1, b2, b3, b4⟩ := dp_rows h
  refine ⟨.list ds, .list [], .lst hc b1, .lst hp .nil, ?_, rfl, ?_⟩
  · simp [SeqAt.shaped, PyData.canLay0, b2, PyData.depth]
    omega
  · have e : PyData.eqv (.list ds) (.list []) = rows.isEmpty := by
      cases ds with
      | nil => cases rows with
        | nil => rfl
        | cons r t => simp at b4
      | cons d ds => cases rows with
        | nil => simp at b4
        | cons r t => rfl
    rw [e]
    exact k
end
/-- rows while they are made -/
structure WS (K : PySem.W.Frag) (H H' : Hp) (b : Bag) (c : Addr) (g : Nat) (xs : List V) (rows : List Row) (lv : V) (lq : Rat) : Prop where
  at_ : H' c = some (.lst xs)
  rel : RowsIs K H' xs rows
  ok : ∀ r ∈ rows, RowG (12 * g) r
  bag : BagAt K H' b
  ext : Ext [b.a] H H'
  lid : Am K H' lv lq
  nb : c ≠ b.a
section
variable {K : PySem.W.Frag} {H H1 H2 : Hp} {b : Bag} {c : Addr} {g : Nat} {xs : List V} {rows : List Row} {lv : V} {lq : Rat}
theorem WS.x0 (e : Ext [] H1 H2) (h : WS K H H1 b c g xs rows lv lq) : WS K H H2 b c g xs rows lv lq := ⟨e _ _ h.at_ (fun z => nomatch z), h.rel.x0 e, h.ok, h.bag.x0 e, h.ext.trans e.of0, h.lid.x0 e, h.nb⟩
theorem WS.bx (e : Ext [b.a] H1 H2) (hb : BagAt K H2 b) (h : WS K H H1 b c g xs rows lv lq) : WS K H H2 b c g xs rows lv lq :=
  ⟨e _ _ h.at_ (by simpa using h.nb), h.rel.x e (bagS h.bag), h.ok, hb, h.ext.trans e, h.lid.b h.bag e, h.nb⟩
end
theorem RowIs.b {K : PySem.W.Frag} {H H1 : Hp} {b : Bag} {v : V} {r : Row} (hb : BagAt K H b) (e : Ext [b.a] H H1) (h : RowIs K H v r) : RowIs K H1 v r := h.x e (bagS hb)
theorem ManIs.b {K : PySem.W.Frag} {H H1 : Hp} {b : Bag} {v : V} {m : Option (Rat × Rat)} (hb : BagAt K H b) (e : Ext [b.a] H H1) (h : ManIs K H v m) : ManIs K H1 v m := h.x e (bagS hb)
section
variable {P : Program} {w : World} {K : PySem.W.Frag} {mg : Str → Option Value} {base : Heap} {f : Addr} {fd : FuncData}
def spWishes (K : PySem.W.Frag) : Sp := fun vs H Q _ => ∃ (b : Bag) (n g : Nat), vs = [.ref b.a, .int (n : Int), .int (g : Int)] ∧ BagAt K H b ∧ n ≤ 8 ∧ 0 < g ∧ g ≤ 2 ^ 60 ∧ ∀ c xs rows H', H c = none → H' c = some (.lst xs) → RowsIs K H' xs rows → (∀ r ∈ rows, RowG (12 * g) r) → rows.length ≤ n → BagAt K H' b → Ext [b.a] H H' → Q (.ref c) H'
theorem rowg_ok {D w : Nat} {man : Option (Rat × Rat)} {q : Rat} (h1 : ManOk D 4096 man) (h2 : In D 4096 q) (h0 : 0 < w) (h12 : w ≤ 12) : RowG D ⟨man, w, q⟩ := ⟨⟨h0, h12, h2, fun l u e => ⟨(h1 l u e).1, (h1 l u e).2.1⟩⟩, fun l u e => (h1 l u e).2.2⟩
theorem RowG.man {D : Nat} {r : Row} (h : RowG D r) : ManOk D 4096 r.man := fun l u e => ⟨(h.ok.m l u e).1, (h.ok.m l u e).2, h.lu l u e⟩
theorem of_two {H : Hp} {b : Bag} {l : Addr} {x y : V} {Q : VK} {E : XK} (hb : BagAt K H b) (hl : SqL K H l [x, y]) (hne : b.a ≠ l) (k : ∀ z H', z = x ∨ z = y → BagAt K H' b → Ext [b.a] H H' → Q z H') : spOf K [.ref b.a, .ref l] H Q E :=
  ⟨b, l, _, rfl, hb, hl, hne, Nat.zero_lt_succ _, show 2 ≤ 4000 by decide, fun i z H' hx hb' e => by
    match i, hx with
    | 0, hx => cases hx; exact k _ H' (.inl rfl) hb' e
    | 1, hx => cases hx; exact k _ H' (.inr rfl) hb' e
    | i + 2, hx => cases hx⟩
end
end Yk

set_option maxHeartbeats 8000000
namespace Yk
open PySem PySem.Spec PyProof.Rows L2

/-- rows of a draw, with its grid -/
structure GR (g : Nat) (rows : List Row) : Prop where
  g0 : 0 < g
  g9 : g ≤ 2 ^ 60
  ok : ∀ r ∈ rows, RowG (12 * g) r
  n : rows.length ≤ 10
section
variable {g : Nat} {rows : List Row}
theorem GR.row (h : GR g rows) : ∀ r ∈ rows, RowOk (12 * g) 4096 r := fun r hr => (h.ok r hr).ok
theorem dvE {g : Nat} : 12 * g * 27720 ∣ 665280 * g := ⟨2, by omega⟩
theorem dvE1 {g : Nat} : 12 * g * 27720 ∣ 332640 * g := ⟨1, by omega⟩
theorem dvDE {g : Nat} : 12 * g ∣ 665280 * g := ⟨55440, by omega⟩
theorem dvDE1 {g : Nat} : 12 * g ∣ 332640 * g := ⟨27720, by omega⟩
theorem dvE1E {g : Nat} : 332640 * g * 2 = 665280 * g := by omega
theorem GR.E9 (h : GR g rows) : 665280 * g ≤ 2 ^ 140 := Nat.le_trans (Nat.mul_le_mul_left 665280 h.g9) (by decide)
theorem GR.E19 (h : GR g rows) : 332640 * g ≤ 2 ^ 140 := Nat.le_trans (Nat.mul_le_mul_left 332640 h.g9) (by decide)
theorem GR.tok (h : GR g rows) {X : Nat} {x : Rat} (h0 : 0 < X) (h9 : X ≤ 2 ^ 360) (hd : 12 * g ∣ X) (hx : In X 4096 x) : TotOk X 4096 4096 rows x := ⟨h0, h9, by decide, by decide, fun r hr => (h.row r hr).up hd, hx, h.n⟩
theorem GR.tin (h : GR g rows) {X : Nat} {x : Rat} (hd : 12 * g ∣ X) (hx : In X 4096 x) : In X 40960 (tot rows x) := (tot_in hx fun r hr => (h.row r hr).up hd).most (Nat.mul_le_mul_right 4096 h.n)
theorem GR.lev (h : GR g rows) {goal : Rat} (hg : In (665280 * g) 65536 goal) : LevOk (12 * g) (665280 * g) 4096 65536 rows goal 1000 :=
  ⟨by have := h.g0; omega, h.row, h.n, dvE, by have := h.g0; omega, h.E9, by decide, by decide, hg, In.nat (n := 1000) (by decide)⟩
theorem sz65 {X : Nat} {q : Rat} {M : Nat} (h : In X M q) (h0 : 0 < X) (h9 : X ≤ 2 ^ 360) (hM : M ≤ 2 ^ 24) : Sz 4000 q := (h.sz h0 h9 hM).mono (by decide)
end
section
variable {P : Program} {w : World} {K : PySem.W.Frag} {mg : Str → Option Value} {base : Heap} {f : Addr} {fd : FuncData}
def spSupply (K : PySem.W.Frag) : Sp := fun vs H Q _ => ∃ (b : Bag) (c : Addr) (g : Nat) (xs : List V) (rows : List Row), vs = [.ref b.a, .ref c] ∧ BagAt K H b ∧ H c = some (.lst xs) ∧ c ≠ b.a ∧ RowsIs K H xs rows ∧ GR g rows ∧
  ∀ v q H', Am K H' v q → In (665280 * g) 65536 q → 0 < q → BagAt K H' b → Ext [b.a] H H' → Q v H'
theorem one_frac {d : Nat} (h : 0 < d) : (⟨1, d, by omega, by simp⟩ : Rat) = mkRat ((1 : Nat) : Int) d := by
  exact Rat.mk_eq_mkRat _ _ _ _
theorem le_two : (2 : Nat) ^ 140 ≤ 2 ^ 360 := Nat.pow_le_pow_right (by decide) (by decide)
theorem half_eq (q : Rat) : q * mkRat ((1 : Nat) : Int) 2 = q * (1 / 2) := by rw [Rat.mkRat_eq_div]; norm_cast
end
end Yk

set_option maxHeartbeats 8000000
namespace Yk
open PySem PySem.Spec PyProof.Rows L2

section
variable {P : Program} {w : World} {K : PySem.W.Frag} {mg : Str → Option Value} {base : Heap} {f : Addr} {fd : FuncData}
/-- a level with its size -/
structure LevAt (E : Nat) (rows : List Row) (goal y : Rat) (X : Nat) : Prop where
  lev : IsLev (tot rows) 1000 goal y
  X0 : 0 < X
  dv : E ∣ X
  X9 : X ≤ 2 ^ 310
  inn : In X 4096 y
theorem x220 {X : Nat} (h : X ≤ 2 ^ 310) : X ≤ 2 ^ 360 := Nat.le_trans h (Nat.pow_le_pow_right (by decide) (by decide))
def spLevelSo (K : PySem.W.Frag) : Sp := fun vs H Q _ => ∃ (s d : V) (c : Addr) (g X : Nat) (xs : List V) (rows : List Row) (goal y : Rat), vs = [s, .ref c, d] ∧ Am K H s goal ∧ SqL K H c xs ∧ RowsIs K H xs rows ∧ Am K H d y ∧ GR g rows ∧ In (665280 * g) 65536 goal ∧ LevAt (665280 * g) rows goal y X ∧
  ∀ H', Ext [] H H' → Q (.bl true) H'
end
end Yk

set_option maxHeartbeats 8000000
namespace Yk
open PySem PySem.Spec PyProof.Rows L2

theorem permG {α : Type} (xs : List α) (z : α) (k : Nat) : (xs.take k ++ [z] ++ xs.drop k).Perm (z :: xs) := by
  have h : (xs.take k ++ z :: xs.drop k).Perm (z :: (xs.take k ++ xs.drop k)) := List.perm_middle
  rw [List.take_append_drop] at h
  rw [List.append_assoc]
  exact h
section
variable {K : PySem.W.Frag} {H : Hp}
theorem man_eqd {v w : V} {m : Option (Rat × Rat)} (h : ManIs K H v m) (g : ManIs K H w m) : Eqd K H 2 v w := by
  cases m with
  | none =>
    obtain ⟨a, rfl, h⟩ := h
    obtain ⟨b, rfl, g⟩ := g
    exact .tup h g rfl (by simp) fun i x y hx _ => by simp at hx
  | some p =>
    obtain ⟨a, v1, v2, rfl, h, a1, a2⟩ := h
    obtain ⟨b, w1, w2, rfl, g, b1, b2⟩ := g
    refine .tup h g rfl (show 2 ≤ 4000 by decide) fun i x y hx hy => ?_
    match i, hx, hy with
    | 0, hx, hy => cases hx; cases hy; exact a1.eqd 0 b1
    | 1, hx, hy => cases hx; cases hy; exact a2.eqd 0 b2
    | i + 2, hx, _ => cases hx
theorem row_eqd {v w : V} {r : Row} (h : RowIs K H v r) (g : RowIs K H w r) : Eqd K H 3 v w := by
  obtain ⟨a, mv, bv, rfl, h, h1, h2⟩ := h
  obtain ⟨b, mw, bw, rfl, g, g1, g2⟩ := g
  refine .tup h g rfl (show 3 ≤ 4000 by decide) fun i x y hx hy => ?_
  match i, hx, hy with
  | 0, hx, hy => cases hx; cases hy; exact man_eqd h1 g1
  | 1, hx, hy => cases hx; cases hy; exact .int _ _
  | 2, hx, hy => cases hx; cases hy; exact h2.eqd 1 g2
  | i + 3, hx, _ => cases hx
theorem rows_eqd {a b : Addr} {xs ys : List V} {rows : List Row} (h1 : SqL K H a xs) (h2 : SqL K H b ys) (h : RowsIs K H xs rows) (g : RowsIs K H ys rows) (n : rows.length ≤ 4000) : Eqd K H 4 (.ref a) (.ref b) :=
  .lst h1 h2 (h.1.trans g.1.symm) (by rw [h.1]; exact n) fun i x y hx hy => by
    obtain ⟨r, hr, e⟩ := h.at_ hx
    exact row_eqd e (g.2 i y r hy hr)
end
section
variable {P : Program} {w : World} {K : PySem.W.Frag} {mg : Str → Option Value} {base : Heap} {f : Addr} {fd : FuncData}
theorem k_level {H : Hp} {Q : VK} {E : XK} {v : V} {a : Addr} {g : Nat} {xs : List V} {rows : List Row} {goal : Rat} (ha : SqQ K H a xs) (hr : RowsIs K H xs rows) (hv : Am K H v goal) (G : GR g rows) (ig : In (665280 * g) 65536 goal)
    (k : ∀ v y X H', LevAt (665280 * g) rows goal y X → Ext [] H H' → Am K H' v y → Q v H') : spLevel K [v, .ref a] H Q E :=
  ⟨v, a, xs, rows, _, _, _, _, goal, rfl, ha, hr, hv, G.lev ig, fun v y X H' l x0 x1 x2 x3 e av => k v y X H' ⟨l, x0, x1, x2, x3⟩ e av⟩
theorem k_llevel {H : Hp} {Q : VK} {E : XK} {v : V} {a : Addr} {g : Nat} {xs : List V} {rows : List Row} {goal : Rat} (ha : SqL K H a xs) (hr : RowsIs K H xs rows) (hv : Am K H v goal) (G : GR g rows) (ig : In (665280 * g) 65536 goal)
    (k : ∀ v y X H', LevAt (665280 * g) rows goal y X → Ext [] H H' → Am K H' v y → Q v H') : spLLevel K [v, .ref a] H Q E :=
  ⟨v, a, xs, rows, _, _, _, _, goal, rfl, ha, hr, hv, G.lev ig, fun v y X H' l x0 x1 x2 x3 e av => k v y X H' ⟨l, x0, x1, x2, x3⟩ e av⟩
theorem k_mixed {H : Hp} {Q : VK} {E : XK} {b : Bag} {c : Addr} {xs : List V} (hb : BagAt K H b) (hc : H c = some (.lst xs)) (n : c ≠ b.a) (h4 : xs.length ≤ 4000) (k : ∀ p ys H', ys.Perm xs → H p = none → H' p = some (.lst ys) → BagAt K H' b → Ext [b.a] H H' → Q (.ref p) H') : spMixed K [.ref b.a, .ref c] H Q E :=
  ⟨b, c, xs, rfl, hb, .inl (.inl hc), n.symm, h4, k⟩
theorem GR.perm {g : Nat} {rows rows' : List Row} (G : GR g rows) (p : rows'.Perm rows) : GR g rows' := ⟨G.g0, G.g9, fun r hr => G.ok r (p.subset hr), by rw [p.length_eq]; exact G.n⟩
theorem LevAt.same {E E' X X' : Nat} {rows rows' : List Row} {goal y z : Rat} (h : LevAt E rows goal y X) (g : LevAt E' rows' goal z X') (e : tot rows' = tot rows) : z = y := by
  have := g.lev
  rw [e] at this
  exact this.uniq h.lev
theorem RowsIs.b {H H1 : Hp} {b : Bag} {xs : List V} {rows : List Row} (hb : BagAt K H b) (e : Ext [b.a] H H1) (h : RowsIs K H xs rows) : RowsIs K H1 xs rows := h.x e (bagS hb)
end
end Yk

set_option maxHeartbeats 8000000
namespace Yk
open PySem PySem.Spec PyProof.Rows L2

theorem Row.lip (r : Row) {x y : Rat} (h : x ≤ y) : r.at_ y - r.at_ x ≤ (r.w : Rat) * (y - x) := by
  obtain ⟨man, w, b⟩ := r
  have w0 : (0 : Rat) ≤ (w : Rat) := natQ (Nat.zero_le w)
  cases man with
  | none =>
    have := mul_nn w0 (show 0 ≤ y - x by grind)
    show (0 : Rat) - 0 ≤ (w : Rat) * (y - x)
    grind
  | some p =>
    obtain ⟨l, m⟩ := p
    show lmax l (lmin m ((w : Rat) * lmin y b)) - lmax l (lmin m ((w : Rat) * lmin x b)) ≤ (w : Rat) * (y - x)
    have h1 : lmin y b - lmin x b ≤ y - x := by unfold lmin; grind
    have h2 := lmin_mono (r := b) h
    have h3 : (w : Rat) * (lmin y b - lmin x b) ≤ (w : Rat) * (y - x) := Rat.mul_le_mul_of_nonneg_left h1 w0
    have h4 : (w : Rat) * lmin x b ≤ (w : Rat) * lmin y b := wmono h2
    generalize lmin y b = Y at *
    generalize lmin x b = X at *
    have h5 : (w : Rat) * (Y - X) = (w : Rat) * Y - (w : Rat) * X := by grind
    generalize (w : Rat) * Y = B at *
    generalize (w : Rat) * X = A at *
    have h6 : lmax l (lmin m B) - lmax l (lmin m A) ≤ B - A := by unfold lmax lmin; grind
    grind
theorem tot_lip (rows : List Row) : ∃ W : Rat, 0 ≤ W ∧ ∀ x y, x ≤ y → tot rows y - tot rows x ≤ W * (y - x) := by
  induction rows with
  | nil => exact ⟨0, Rat.le_refl, fun x y h => by show (0 : Rat) - 0 ≤ _; grind⟩
  | cons r t ih =>
    obtain ⟨W, W0, hW⟩ := ih
    refine ⟨(r.w : Rat) + W, by have := natQ (Nat.zero_le r.w); grind, fun x y h => ?_⟩
    rw [tot_cons, tot_cons]
    have h1 := r.lip h
    have h2 := hW x y h
    grind
theorem lev_goal {rows : List Row} {top goal y : Rat} (L : IsLev (tot rows) top goal y) (h : 0 < y) : tot rows y ≤ goal := by
  obtain ⟨W, W0, hW⟩ := tot_lip rows
  refine Rat.not_lt.mp fun hg => ?_
  obtain ⟨e, he⟩ : ∃ e, e = (tot rows y - goal) / (W + 1) := ⟨_, rfl⟩
  have he2 : e * (W + 1) = tot rows y - goal := by rw [he]; grind
  have e0 : 0 < e := by
    refine Rat.not_le.mp fun z => ?_
    have := mul_nn (show 0 ≤ -e by grind) (show 0 ≤ W + 1 by grind)
    grind
  obtain ⟨d, hd⟩ : ∃ d, d = lmin y e := ⟨_, rfl⟩
  have d0 : 0 < d := by rw [hd]; unfold lmin; grind
  have d1 : d ≤ e := by rw [hd]; exact lmin_le2 _ _
  have d2 : d ≤ y := by rw [hd]; exact lmin_le1 _ _
  have h1 := L.lo (y - d) (by grind) (by grind)
  have h2 := hW (y - d) y (by grind)
  have h3 : W * (y - (y - d)) ≤ W * e := Rat.mul_le_mul_of_nonneg_left (by grind) W0
  grind
/-- the least wishes -/
def leasts (rows : List Row) : List Rat := rows.filterMap fun r => r.man.map (·.1)
theorem at_zero {D M : Nat} {r : Row} (h : RowOk D M r) : r.at_ 0 = (match r.man with | none => 0 | some p => p.1) := by
  obtain ⟨man, w, b⟩ := r
  have hb := h.b.nn
  have hm := h.m
  cases man with
  | none => rfl
  | some p =>
    obtain ⟨l, m⟩ := p
    obtain ⟨h1, h2⟩ := hm l m rfl
    have := h1.nn
    have := h2.nn
    show lmax l (lmin m ((w : Rat) * lmin 0 b)) = l
    have : lmin 0 b = 0 := by unfold lmin; grind
    rw [this, Rat.mul_zero]
    unfold lmax lmin
    grind
theorem tot_zero {D M : Nat} : ∀ {rows : List Row}, (∀ r ∈ rows, RowOk D M r) → tot rows 0 = sumQ (leasts rows)
  | [], _ => rfl
  | r :: t, h => by
    have h1 := at_zero (h r List.mem_cons_self)
    have h2 := tot_zero (rows := t) fun r hr => h r (List.mem_cons_of_mem _ hr)
    rw [tot_cons, h1, h2]
    unfold leasts
    cases e : r.man with
    | none => rw [List.filterMap_cons, e]; simp [Rat.zero_add]
    | some p => rw [List.filterMap_cons, e]; simp [sumQ_cons]
theorem at_between {D M : Nat} {r : Row} (h : RowOk D M r) {l u : Rat} (hm : r.man = some (l, u)) (lu : l ≤ u) (x : Rat) : l ≤ r.at_ x ∧ r.at_ x ≤ u := by
  unfold Row.at_ shq
  rw [hm]
  dsimp only
  unfold lmax lmin
  grind
theorem in_any {m : Nat} {q : Rat} (h : 0 ≤ q) (z : Sz m q) : In q.den (2 ^ m) q := by
  have e2 : (q.num : Rat) / (q.den : Rat) = q := by rw [← Rat.mkRat_eq_div]; exact Rat.mkRat_self q
  have d0 := natP q.den_pos
  have d1 : (1 : Rat) ≤ (q.den : Rat) := by exact_mod_cast q.den_pos
  have e3 : q * (q.den : Rat) = (q.num : Rat) := by grind
  refine ⟨h, ?_, q.num, e3⟩
  have hn := num_nn h
  have h1 : q.num ≤ ((2 ^ m : Nat) : Int) := by have := z.1; omega
  have h2 : (q.num : Rat) ≤ ((2 ^ m : Nat) : Rat) := by exact_mod_cast h1
  have h3 : q * 1 ≤ q * (q.den : Rat) := Rat.mul_le_mul_of_nonneg_left d1 h
  grind

section
variable {nx : L2.St → Hp → Prop} {rt : VK} {σ : L2.St} {H : Hp} {K : PySem.W.Frag} {g : TG} {t : TS}
theorem r_loopZ {a b : Addr} {xs ys : List V} (hl : xs.length = ys.length) (Pv : Nat → L2.St → Hp → Prop) (h0 : Pv 0 σ H) (hq : ∀ i σ H, Pv i σ H → SqL K H a xs ∧ SqL K H b ys)
    (hs : ∀ (i : Nat) (x y : V) (T : Addr) σ (H : Hp), xs[i]? = some x → ys[i]? = some y → Pv i σ H → H T = none → g (.ref T) σ (upd H T (.tup [x, y])) fun σ2 H2 => t ⟨Pv (i + 1), rt, nx, Pv (i + 1)⟩ σ2 H2) (hd : ∀ σ H, Pv xs.length σ H → nx σ H) :
    ∃ W : Nat → Nat → L2.St → Hp → Prop, (∃ m, W 0 m σ H) ∧ ∀ i m σ H, W i m σ H →
      ((Itz K a b).stop i H ∧ nx σ H) ∨ ((Itz K a b).go i H ∧ ∃ N : L2.St → Hp → Prop, (∀ σ' H', N σ' H' → ∃ m', m' < m ∧ W (i + 1) m' σ' H') ∧ ∀ x H', (Itz K a b).yld i H x H' → g x σ H' fun σ2 H2 => t ⟨N, rt, nx, N⟩ σ2 H2) := by
  refine ⟨fun i m σ H => m = xs.length - i ∧ i ≤ xs.length ∧ Pv i σ H, ⟨xs.length, rfl, Nat.zero_le _, h0⟩, ?_⟩
  rintro i m σ H ⟨rfl, hi, p⟩
  obtain ⟨qx, qy⟩ := hq i σ H p
  by_cases hlt : i < xs.length
  · have hx : xs[i]? = some xs[i] := List.getElem?_eq_getElem hlt
    have hlt2 : i < ys.length := by omega
    have hy : ys[i]? = some ys[i] := List.getElem?_eq_getElem hlt2
    refine .inr ⟨⟨xs, ys, _, _, qx, qy, hx, hy⟩, Pv (i + 1), fun σ' H' p' => ⟨xs.length - (i + 1), by omega, rfl, hlt, p'⟩, fun v H' y => ?_⟩
    obtain ⟨T, x', y', rfl, hT, rfl, f1, f2⟩ := y
    exact hs i x' y' T σ _ (f1 xs qx) (f2 ys qy) p hT
  · have e : i = xs.length := by omega
    subst e
    exact .inl ⟨⟨xs, ys, qx, qy, .inl (Nat.le_refl _)⟩, hd σ H p⟩
end
section
variable {P : Program} {w : World} {K : PySem.W.Frag} {mg : Str → Option Value} {base : Heap} {f : Addr} {fd : FuncData}
def RetAll (K : PySem.W.Frag) (H : Hp) (Q : VK) (qs : List Rat) : Prop := ∀ (c : Addr) (zs : List V) H', H c = none → H' c = some (.lst zs) → Ams K H' zs qs → Ext [] H H' → Q (.ref c) H'
def spAllot (K : PySem.W.Frag) : Sp := fun vs H Q _ => ∃ (a : Addr) (xs : List V) (rows : List Row) (v : V) (x : Rat) (X M N : Nat), vs = [v, .ref a] ∧ SqQ K H a xs ∧ RowsIs K H xs rows ∧ Am K H v x ∧ TotOk X M N rows x ∧ RetAll K H Q (rows.map fun r => r.at_ x)
abbrev s_allotments : Stmt := top 20
theorem c_allotments : FnScope ["level", "wishes", "manner", "weight", "bound"] ["level", "wishes"] (defScope s_allotments) := ⟨rfl, rfl, rfl, by decide +kernel, rfl, by decide +kernel, by decide +kernel⟩
theorem f_allotments (F : FunD K "allotments" "allotments" (defArgs s_allotments) (defBody s_allotments) (defScope s_allotments) [] [] f fd) (hm : mg "allotments" = some (.ref f)) (Fshare : Fn P w K mg base 3 "share" (spShare K)) (Fsmallest : Fn P w K mg base 2 "smallest" (spMin minQ K)) : FnOk P w K mg base CX0 4 f fd ["level", "wishes"] (spAllot K) := by
  refine ok_def F c_allotments (fun vs H Q E h => ?_) (fun cdv A outer s H vs Q E hr h => ?_)
  · obtain ⟨a, xs, rows, v, x, X, M, N, rfl, _⟩ := h
    rfl
  · obtain ⟨a, xs, rows, v, x, X, M, N, rfl, ha, hrows, hx, T, k⟩ := h
    have nd := c_allotments.nd
    refine ⟨_, (pss_one (ps_ret (pe_lc (own := [("manner", 2), ("weight", 3), ("bound", 4)])  rfl nd (pi_seq (pv 1)) (blkOk_by (N := ["level", "wishes", "manner", "weight", "bound"]) (sc := defScope s_allotments) (by decide +kernel)) (fun _ _ _ _ _ => (pg_tup (n := 3) rfl (pgs_cons (pg_name (i := 2) nd rfl (Or.inl rfl)) (pgs_cons (pg_name (i := 3) nd rfl (Or.inl rfl)) (pgs_cons (pg_name (i := 4) nd rfl (Or.inl rfl)) pgs_nil))) : PG _ _ (gTup K 3 _))) (fun _ _ _ _ _ => pts_nil) (fun _ _ _ _ _ => (pe_fn Fshare (hr.mono (by decide)) (pa_cons (pv 2) (pa_cons (pv 3) (pa_cons (pe_fn Fsmallest (hr.mono (by decide)) (pa_cons (pv 0) (pa_cons (pv 4) pa_nil))) pa_nil)))))))), ?_⟩
    show (_ : TS) _ [some _, some _, none, none, none] _
    try dsimp only [cxOf, Cx.nox]
    walk_at "go"
    have zr : ∀ r ∈ rows, ManSz 385 r.man ∧ Sz 385 r.b := fun r hr => rowSz (T.row r hr) T.X0 T.X9 T.M9
    have zx : Sz 481 x := T.x.sz T.X0 T.X9 T.N9
    refine r_lcQ rfl ha (kp0 Ext.refl) fun D hD => ⟨fun i H1 => ∃ acc : List V, H1 D = some (.lst acc) ∧ Ams K H1 acc ((rows.take i).map fun r => r.at_ x) ∧ Ext [] H H1, ?_, ?_, ?_, ?_⟩
    · exact ⟨[], upd_same, Ams.nil, Ext.refl.new hD⟩
    · rintro j H2 ⟨acc, _, _, e⟩
      exact kp0 e
    · rintro j y H1 hy ⟨acc, hacc, hams, e1⟩
      obtain ⟨r, hr, hrow⟩ := hrows.at_ hy
      have hrm := List.mem_of_getElem? hr
      obtain ⟨at_, mv, bv, rfl, ht, hm, hb⟩ := hrow.x0 e1
      walk_at "go"
      refine ⟨rfl, ?_⟩
      walk_at "go"
      refine k_min2 (hx.x0 e1) hb (zx.mono (by decide)) ((zr r hrm).2.mono (by decide)) fun v1 H2 n2 a2 => ?_
      walk_at "go"
      have zm : Sz 2000 (lmin x r.b) := (sz_min zx ((zr r hrm).2.mono (by decide))).mono (by decide)
      refine ⟨mv, v1, r.w, r.man, lmin x r.b, rfl, hm.x0 n2, a2, (T.row r hrm).w12, fun l u e => ⟨((zr r hrm).1 l u e).1.mono (by decide), ((zr r hrm).1 l u e).2.mono (by decide)⟩, zm, fun v2 H3 n3 a3 => ?_⟩
      walk_at "go"
      have hD3 : H3 D = some (.lst acc) := n3 _ _ (n2 _ _ hacc fun z => nomatch z) fun z => nomatch z
      have hl := hams.1
      rw [List.length_map, List.length_take] at hl
      have := T.n
      refine ⟨acc, hD3, Nat.lt_of_le_of_lt (by omega : acc.length ≤ 4000) (by decide), acc ++ [v2], upd_same, ?_, ((e1.trans n2).trans n3).own hD⟩
      rw [take_map hr]
      exact (((hams.x0 n2).x0 n3).w hD3).app (Ams.cons (a3.w hD3) Ams.nil)
    · rintro H1 ⟨acc, hacc, hams, e1⟩
      rw [hrows.1, List.take_length] at hams
      exact k D acc H1 hD hacc hams e1
def spParts (K : PySem.W.Frag) : Sp := fun vs H Q _ => ∃ (a : Addr) (xs : List V) (rows : List Row) (v : V) (x : Rat) (X M N : Nat), vs = [.ref a, v] ∧ SqL K H a xs ∧ RowsIs K H xs rows ∧ Am K H v x ∧ TotOk X M N rows x ∧ RetAll K H Q (rows.map fun r => r.at_ x)
def spAtSo (K : PySem.W.Frag) : Sp := fun vs H Q _ => ∃ (bv v : V) (c : Addr) (xs : List V) (rows : List Row) (x : Rat) (X M N : Nat), vs = [bv, .ref c, v] ∧ H c = some (.lst xs) ∧ RowsIs K H xs rows ∧ Am K H v x ∧ TotOk X M N rows x ∧ ∀ H', Ext [] H H' → Q (.bl true) H'
def spEnough (K : PySem.W.Frag) : Sp := fun vs H Q _ => ∃ (b : Bag) (c : Addr) (g : Nat) (xs : List V) (rows : List Row), vs = [.ref b.a, .ref c] ∧ BagAt K H b ∧ H c = some (.lst xs) ∧ c ≠ b.a ∧ RowsIs K H xs rows ∧ GR g rows ∧
  ∀ v q H', Am K H' v q → In (665280 * g) 65536 q → tot rows 0 ≤ q → BagAt K H' b → Ext [b.a] H H' → Q v H'
theorem leasts_take {rows : List Row} {i : Nat} {r : Row} (h : rows[i]? = some r) : leasts (rows.take (i + 1)) = leasts (rows.take i) ++ (match r.man with | none => [] | some p => [p.1]) := by
  obtain ⟨hl, e⟩ := List.getElem?_eq_some_iff.mp h
  unfold leasts
  rw [← List.take_append_getElem hl, List.filterMap_append, e]
  congr 1
  cases er : r.man with
  | none => rw [List.filterMap_cons, er]; simp
  | some p => rw [List.filterMap_cons, er]; simp
theorem leasts_in {D M : Nat} {rows : List Row} (h : ∀ r ∈ rows, RowOk D M r) : ∀ q ∈ leasts rows, In D M q := fun q hq => by
  obtain ⟨r, hr, e⟩ := List.mem_filterMap.mp hq
  cases em : r.man with
  | none => rw [em] at e; cases e
  | some p => rw [em] at e; cases e; exact ((h r hr).m p.1 p.2 em).1
theorem leasts_len (rows : List Row) : (leasts rows).length ≤ rows.length := List.length_filterMap_le _ _
end
end Yk

set_option maxHeartbeats 8000000
namespace Yk
open PySem PySem.Spec PyProof.Rows L2

/-! Wants, and what they get. -/
structure Want where
  w : Nat
  h : Rat
structure WantOk (D M : Nat) (o : Want) : Prop where
  w0 : 0 < o.w
  w12 : o.w ≤ 12
  h : In D M o.h
def Want.at_ (o : Want) (x : Rat) : Rat := lmin o.h ((o.w : Rat) * x)
theorem Want.mono (o : Want) {x y : Rat} (h : x ≤ y) : o.at_ x ≤ o.at_ y := by
  have h2 := wmono (w := o.w) h
  unfold Want.at_
  generalize (o.w : Rat) * x = a at h2 ⊢
  generalize (o.w : Rat) * y = b at h2 ⊢
  unfold lmin
  grind
theorem Want.le (o : Want) (x : Rat) : o.at_ x ≤ o.h := lmin_le1 _ _
def Filled (os : List Want) (S : Rat) (gs : List Rat) : Prop :=
  (gs = os.map (·.h) ∧ sumQ gs ≤ S) ∨ ∃ lam, 0 ≤ lam ∧ gs = os.map (fun o => o.at_ lam) ∧ sumQ gs = S ∧ ∃ o ∈ os, (o.w : Rat) * lam < o.h
theorem sum_le_map {α : Type} {f g : α → Rat} : ∀ {os : List α}, (∀ o ∈ os, f o ≤ g o) → sumQ (os.map f) ≤ sumQ (os.map g)
  | [], _ => Rat.le_refl
  | o :: os, h => by
    rw [List.map_cons, List.map_cons, sumQ_cons, sumQ_cons]
    have h1 := h o List.mem_cons_self
    have h2 := sum_le_map (os := os) fun x hx => h x (List.mem_cons_of_mem _ hx)
    grind
theorem sum_eq_map {α : Type} {f g : α → Rat} : ∀ {os : List α}, (∀ o ∈ os, f o ≤ g o) → sumQ (os.map g) ≤ sumQ (os.map f) → os.map f = os.map g
  | [], _, _ => rfl
  | o :: os, h, e => by
    rw [List.map_cons, List.map_cons, sumQ_cons, sumQ_cons] at e
    have h1 := h o List.mem_cons_self
    have h0 := fun x (hx : x ∈ os) => h x (List.mem_cons_of_mem _ hx)
    have h2 := sum_le_map h0
    rw [List.map_cons, List.map_cons, sum_eq_map h0 (by grind), show f o = g o by grind]
theorem sum_zero {α : Type} : ∀ os : List α, sumQ (os.map fun _ => (0 : Rat)) = 0
  | [] => rfl
  | o :: os => by rw [List.map_cons, sumQ_cons, sum_zero os]; exact Rat.add_zero 0
theorem Filled.uniq {os : List Want} {S : Rat} {gs gs' : List Rat} (h : Filled os S gs) (h' : Filled os S gs') : gs = gs' := by
  have AB : ∀ {gs gs' : List Rat} {lam : Rat}, gs = os.map (·.h) → sumQ gs ≤ S → gs' = os.map (fun o => o.at_ lam) → sumQ gs' = S → gs' = gs := by
    intro gs gs' lam e1 e2 e3 e4
    rw [e1, e3]
    exact sum_eq_map (fun o _ => o.le lam) (by rw [← e1, ← e3, e4]; exact e2)
  have BB : ∀ {gs gs' : List Rat} {l l' : Rat}, l ≤ l' → gs = os.map (fun o => o.at_ l) → sumQ gs = S → gs' = os.map (fun o => o.at_ l') → sumQ gs' = S → gs = gs' := by
    intro gs gs' l l' hl e1 e2 e3 e4
    rw [e1, e3]
    exact sum_eq_map (fun o _ => o.mono hl) (by rw [← e1, ← e3, e2, e4]; exact Rat.le_refl)
  rcases h with ⟨a1, a2⟩ | ⟨l, a0, a1, a2, _⟩
  · rcases h' with ⟨b1, b2⟩ | ⟨l', b0, b1, b2, _⟩
    · rw [a1, b1]
    · exact (AB a1 a2 b1 b2).symm
  · rcases h' with ⟨b1, b2⟩ | ⟨l', b0, b1, b2, _⟩
    · exact AB b1 b2 a1 a2
    · rcases (Rat.le_total : l ≤ l' ∨ l' ≤ l) with h | h
      · exact BB h a1 a2 b1 b2
      · exact (BB h b1 b2 a1 a2).symm
def wrow (top : Rat) (o : Want) : Row := ⟨some (0, o.h), o.w, top⟩
theorem wrow_at {D M : Nat} {o : Want} (ok : WantOk D M o) {top y : Rat} (h0 : 0 ≤ y) (h1 : y ≤ top) : (wrow top o).at_ y = o.at_ y := by
  show lmax 0 (lmin o.h ((o.w : Rat) * lmin y top)) = lmin o.h ((o.w : Rat) * y)
  rw [show lmin y top = y by unfold lmin; grind]
  have h2 := mul_nn (natQ (Nat.zero_le o.w)) h0
  have h3 := ok.h.nn
  have e : ((0 : Nat) : Rat) = 0 := rfl
  generalize (o.w : Rat) * y = z at *
  unfold lmax lmin
  grind
theorem wmap_at {D M : Nat} {os : List Want} (ok : ∀ o ∈ os, WantOk D M o) {top y : Rat} (h0 : 0 ≤ y) (h1 : y ≤ top) : ((os.map (wrow top)).map fun r => r.at_ y) = os.map fun o => o.at_ y := by
  rw [List.map_map]
  exact List.map_congr_left fun o ho => wrow_at (ok o ho) h0 h1
theorem w_tot {D M : Nat} {os : List Want} (ok : ∀ o ∈ os, WantOk D M o) {top y : Rat} (h0 : 0 ≤ y) (h1 : y ≤ top) : tot (os.map (wrow top)) y = sumQ (os.map fun o => o.at_ y) := by
  unfold tot
  rw [wmap_at ok h0 h1]
theorem lev_filled {D M : Nat} {os : List Want} {S y top : Rat} (ok : ∀ o ∈ os, WantOk D M o) (ht : ∀ o ∈ os, o.h ≤ top) (S0 : 0 ≤ S) (L : IsLev (tot (os.map (wrow top))) top S y) : Filled os S ((os.map (wrow top)).map fun r => r.at_ y) := by
  have e := w_tot ok L.nn L.le
  rw [wmap_at ok L.nn L.le]
  have hle : sumQ (os.map fun o => o.at_ y) ≤ S := by
    rcases le_cases L.nn with h | h
    · rw [← e]; exact lev_goal L h
    · have h2 : sumQ (os.map fun o => o.at_ y) ≤ sumQ (os.map fun _ => (0 : Rat)) := sum_le_map fun o ho => by
        show lmin o.h ((o.w : Rat) * y) ≤ 0
        rw [← h, Rat.mul_zero]
        exact lmin_le2 _ _
      rw [sum_zero] at h2
      exact Rat.le_trans h2 S0
  by_cases hall : ∀ o ∈ os, o.h ≤ (o.w : Rat) * y
  · have e2 : (os.map fun o => o.at_ y) = os.map (·.h) := List.map_congr_left fun o ho => by
      have := hall o ho
      show lmin o.h ((o.w : Rat) * y) = o.h
      generalize (o.w : Rat) * y = z at *
      unfold lmin
      grind
    rw [e2] at hle ⊢
    exact .inl ⟨rfl, hle⟩
  · simp only [Classical.not_forall] at hall
    obtain ⟨o, ho, hn⟩ := hall
    have hn := Rat.not_le.mp hn
    refine .inr ⟨y, L.nn, rfl, Rat.le_antisymm hle ?_, o, ho, hn⟩
    rcases L.hi with h | h
    · rw [← e]; exact h
    · have h1 := ht o ho
      have h2 := wmono (w := o.w) (Rat.le_refl (a := y))
      have w1 : (1 : Rat) ≤ (o.w : Rat) := by exact_mod_cast (ok o ho).w0
      have h3 : 1 * y ≤ (o.w : Rat) * y := Rat.mul_le_mul_of_nonneg_right w1 L.nn
      grind
structure SpOk (D E M B : Nat) (os : List Want) (S : Rat) : Prop where
  ok : ∀ o ∈ os, WantOk D M o
  n : os.length ≤ 10
  D0 : 0 < D
  de : D * 27720 ∣ E
  E0 : 0 < E
  E9 : E ≤ 2 ^ 140
  B9 : B ≤ 2 ^ 24
  MB : 10 * M ≤ B
  goal : In E B S
section
variable {D E M B : Nat} {os : List Want} {S : Rat}
theorem SpOk.dE (h : SpOk D E M B os S) : D ∣ E := Nat.dvd_trans (Nat.dvd_mul_right _ _) h.de
theorem SpOk.M9 (h : SpOk D E M B os S) : M ≤ 2 ^ 24 := by have := h.MB; have := h.B9; omega
theorem SpOk.top_ (h : SpOk D E M B os S) : In D M (maxQ 0 (os.map (·.h))) := by
  rcases List.mem_cons.mp (maxQ_spec (os.map (·.h)) 0).1 with e | e
  · rw [e]; exact In.zero
  · obtain ⟨o, ho, e⟩ := List.mem_map.mp e
    rw [← e]
    exact (h.ok o ho).h
theorem SpOk.le_top {h : Rat} {o : Want} (ho : o ∈ os) : o.h ≤ maxQ 0 (os.map (·.h)) := (maxQ_spec (os.map (·.h)) 0).2 _ (List.mem_cons_of_mem _ (List.mem_map_of_mem ho))
theorem SpOk.rows (h : SpOk D E M B os S) : ∀ r ∈ os.map (wrow (maxQ 0 (os.map (·.h)))), RowOk D M r := fun r hr => by
  obtain ⟨o, ho, rfl⟩ := List.mem_map.mp hr
  exact ⟨(h.ok o ho).w0, (h.ok o ho).w12, h.top_, fun l u e => by cases e; exact ⟨In.zero, (h.ok o ho).h⟩⟩
theorem SpOk.lev (h : SpOk D E M B os S) : LevOk D E M B (os.map (wrow (maxQ 0 (os.map (·.h))))) S (maxQ 0 (os.map (·.h))) :=
  ⟨h.D0, h.rows, by rw [List.length_map]; exact h.n, h.de, h.E0, h.E9, h.B9, h.MB, h.goal, h.top_.up h.dE⟩
theorem SpOk.perm {os' : List Want} (h : SpOk D E M B os S) (p : os'.Perm os) : SpOk D E M B os' S := { h with ok := fun o ho => h.ok o (p.subset ho), n := by rw [p.length_eq]; exact h.n }
end
/-! wants as they stand -/
section
variable {K : PySem.W.Frag} {H H1 : Hp}
def WantIs (K : PySem.W.Frag) (H : Hp) (v : V) (o : Want) : Prop := ∃ a hv, v = .ref a ∧ SqT K H a [.int (o.w : Int), hv] ∧ Am K H hv o.h
theorem WantIs.x {T : List Addr} {v : V} {o : Want} (e : Ext T H H1) (h : WantIs K H v o) (hs : ∀ b ∈ T, ∃ l, H b = some (.lst l)) : WantIs K H1 v o := by
  obtain ⟨a, hv, rfl, h1, h2⟩ := h
  exact ⟨a, hv, rfl, tupX e h1 hs, h2.x e hs⟩
theorem WantIs.x0 {v : V} {o : Want} (e : Ext [] H H1) (h : WantIs K H v o) : WantIs K H1 v o := h.x e fun _ z => nomatch z
def WantsIs (K : PySem.W.Frag) (H : Hp) (xs : List V) (os : List Want) : Prop := Rel (WantIs K H) xs os
theorem WantsIs.x {T : List Addr} {xs : List V} {os : List Want} (e : Ext T H H1) (h : WantsIs K H xs os) (hs : ∀ b ∈ T, ∃ l, H b = some (.lst l)) : WantsIs K H1 xs os := h.imp fun _ _ z => z.x e hs
theorem WantsIs.x0 {xs : List V} {os : List Want} (e : Ext [] H H1) (h : WantsIs K H xs os) : WantsIs K H1 xs os := h.x e fun _ z => nomatch z
theorem WantsIs.b {b : Bag} {xs : List V} {os : List Want} (hb : BagAt K H b) (e : Ext [b.a] H H1) (h : WantsIs K H xs os) : WantsIs K H1 xs os := h.x e (bagS hb)
theorem WantsIs.w {c : Addr} {l l' : List V} {xs : List V} {os : List Want} (h : H c = some (.lst l)) (a : WantsIs K H xs os) : WantsIs K (upd H c (.lst l')) xs os := a.x extW (lstS1 h)
theorem want_eqd (n : Nat) {v w : V} {o : Want} (h : WantIs K H v o) (g : WantIs K H w o) : Eqd K H (n + 2) v w := by
  obtain ⟨a, hv, rfl, h1, h2⟩ := h
  obtain ⟨b, hw, rfl, g1, g2⟩ := g
  refine .tup h1 g1 rfl (show 2 ≤ 4000 by decide) fun i x y hx hy => ?_
  match i, hx, hy with
  | 0, hx, hy => cases hx; cases hy; exact .int _ _
  | 1, hx, hy => cases hx; cases hy; exact h2.eqd n g2
  | i + 2, hx, _ => cases hx
theorem wants_eqd {a b : Addr} {xs ys : List V} {os : List Want} (h1 : SqL K H a xs) (h2 : SqL K H b ys) (h : WantsIs K H xs os) (g : WantsIs K H ys os) (n : os.length ≤ 4000) : Eqd K H 4 (.ref a) (.ref b) :=
  .lst h1 h2 (h.1.trans g.1.symm) (by rw [h.1]; exact n) fun i x y hx hy => by
    obtain ⟨r, hr, e⟩ := h.at_ hx
    exact want_eqd 1 e (g.2 i y r hy hr)
end
theorem take_map' {α β : Type} {f : α → β} {l : List α} {i : Nat} {r : α} (h : l[i]? = some r) : (l.take (i + 1)).map f = (l.take i).map f ++ [f r] := by
  obtain ⟨hl, e⟩ := List.getElem?_eq_some_iff.mp h
  rw [← List.take_append_getElem hl, List.map_append, e]
  rfl
section
variable {P : Program} {w : World} {K : PySem.W.Frag} {mg : Str → Option Value} {base : Heap} {f : Addr} {fd : FuncData}
def spSpare (K : PySem.W.Frag) : Sp := fun vs H Q _ => ∃ (s : V) (a : Addr) (xs : List V) (os : List Want) (D E M B : Nat) (S : Rat), vs = [s, .ref a] ∧ SqQ K H a xs ∧ WantsIs K H xs os ∧ Am K H s S ∧ SpOk D E M B os S ∧
  ∀ (c : Addr) (zs : List V) (gs : List Rat) (X : Nat) H', Filled os S gs → 0 < X → X ≤ 2 ^ 310 → (∀ q ∈ gs, In X M q) → H c = none → H' c = some (.lst zs) → Ams K H' zs gs → Ext [] H H' → Q (.ref c) H'
abbrev s_spare_shares : Stmt := top 21
theorem c_spare_shares : FnScope ["rest", "wants", "heights", "weight", "height", "top", "wishes"] ["rest", "wants"] (defScope s_spare_shares) := ⟨rfl, rfl, rfl, by decide +kernel, rfl, by decide +kernel, by decide +kernel⟩
theorem f_spare_shares (F : FunD K "spare_shares" "spare_shares" (defArgs s_spare_shares) (defBody s_spare_shares) (defScope s_spare_shares) [] [] f fd) (hm : mg "spare_shares" = some (.ref f)) (TZ : ∃ z, mg "ZERO" = some (.ref z) ∧ ∀ H, SqT K H z [.int 0, .int 1]) (Flargest : Fn P w K mg base 2 "largest" (spMin maxQ K)) (Fallotments : Fn P w K mg base 4 "allotments" (spAllot K)) (F_least_reaching : Fn P w K mg base 11 "_least_reaching" (spLeast K)) : FnOk P w K mg base CX0 12 f fd ["rest", "wants"] (spSpare K) := by
  refine ok_def F c_spare_shares (fun vs H Q E h => ?_) (fun cdv A outer s H vs Q E hr h => ?_)
  · obtain ⟨s, a, xs, os, D, E, M, B, S, rfl, _⟩ := h
    rfl
  · obtain ⟨s, a, xs, os, D, E, M, B, S, rfl, ha, hos, hs, W, k⟩ := h
    have nd := c_spare_shares.nd
    obtain ⟨z, mz, hz⟩ := TZ
    refine ⟨_, (pss_cons (ps_setLc (i := 2) (own := [("weight", 3), ("height", 4)])  rfl nd rfl rfl (sw_true rfl rfl rfl (by decide +kernel)) (pi_seq (pv 1)) (blkOk_by (N := ["rest", "wants", "heights", "weight", "height", "top", "wishes"]) (sc := defScope s_spare_shares) (by decide +kernel)) (fun _ _ _ _ _ => (pg_tup (n := 2) rfl (pgs_cons (pg_name (i := 3) nd rfl (Or.inl rfl)) (pgs_cons (pg_name (i := 4) nd rfl (Or.inl rfl)) pgs_nil)) : PG _ _ (gTup K 2 _))) (fun _ _ _ _ _ => pts_nil) (fun _ _ _ _ _ => (pv 4)))
      (pss_cons (ps_set (i := 5) nd rfl (by first | exact Or.inl rfl | exact Or.inr rfl) (pe_fnS2 Flargest (hr.mono (by decide)) (pa_cons (pe_glob (v := .ref z) rfl mz rfl) (StX.pa_star (pv 2) pa_nil))))
      (pss_cons (ps_setLc (i := 6) (own := [("weight", 3), ("height", 4)])  rfl nd rfl rfl (sw_true rfl rfl rfl (by decide +kernel)) (pi_seq (pv 1)) (blkOk_by (N := ["rest", "wants", "heights", "weight", "height", "top", "wishes"]) (sc := defScope s_spare_shares) (by decide +kernel)) (fun _ _ _ _ _ => (pg_tup (n := 2) rfl (pgs_cons (pg_name (i := 3) nd rfl (Or.inl rfl)) (pgs_cons (pg_name (i := 4) nd rfl (Or.inl rfl)) pgs_nil)) : PG _ _ (gTup K 2 _))) (fun _ _ _ _ _ => pts_nil) (fun _ _ _ _ _ => (pe_tup (pa_cons (pe_tup (pa_cons (pe_glob (v := .ref z) rfl mz rfl) (pa_cons (pv 4) pa_nil))) (pa_cons (pv 3) (pa_cons (pv 5) pa_nil))))))
      (pss_one (ps_ret (pe_fn Fallotments (hr.mono (by decide)) (pa_cons (pe_fn F_least_reaching (hr.mono (by decide)) (pa_cons (pv 0) (pa_cons (pv 6) (pa_cons (pv 5) pa_nil)))) (pa_cons (pv 6) pa_nil)))))))), ?_⟩
    show (_ : TS) _ [some _, some _, none, none, none, none, none] _
    try dsimp only [cxOf, Cx.nox]
    have ln := W.n
    have lx := hos.1
    have E0 := W.E0
    have E9 : E ≤ 2 ^ 360 := Nat.le_trans W.E9 le_two
    have sH : ∀ q ∈ os.map (·.h), Sz 4000 q := fun q hq => by
      obtain ⟨o, ho, rfl⟩ := List.mem_map.mp hq
      exact sz65 ((W.ok o ho).h.up W.dE) E0 E9 W.M9
    have az : ∀ H', Am K H' (.ref z) 0 := fun H' => ⟨z, rfl, hz H'⟩
    walk_at "go"
    refine r_lcQ rfl ha (kp0 Ext.refl) fun D1 hD1 => ⟨fun i H1 => ∃ acc : List V, H1 D1 = some (.lst acc) ∧ Ams K H1 acc ((os.take i).map (·.h)) ∧ Ext [] H H1, ?_, ?_, ?_, ?_⟩
    · exact ⟨[], upd_same, Ams.nil, Ext.refl.new hD1⟩
    · rintro j H2 ⟨acc, _, _, e⟩
      exact kp0 e
    · rintro j y H1 hy ⟨acc, hacc, hams, e1⟩
      obtain ⟨o, hr, hrow⟩ := hos.at_ hy
      obtain ⟨at_, hv, rfl, ht, hh⟩ := hrow.x0 e1
      have hl := hams.1
      rw [List.length_map, List.length_take] at hl
      walk_at "go"
      refine ⟨rfl, ?_⟩
      walk_at "go"
      refine ⟨acc, hacc, Nat.lt_of_le_of_lt (by omega : acc.length ≤ 4000) (by decide), acc ++ [hv], upd_same, ?_, e1.own hD1⟩
      rw [take_map' hr]
      exact (hams.w hacc).app (Ams.cons (hh.w hacc) Ams.nil)
    · rintro H1 ⟨hs1, hacc, hams, e1⟩
      rw [hos.1, List.take_length] at hams
      walk_at "go"
      refine ⟨D1, hs1, rfl, .inr (.inl (.inl hacc)), ?_⟩
      walk_at "go"
      refine ⟨0, os.map (·.h), ?_, ?_, ?_, fun tv H2 n2 at_ => ?_⟩
      · rw [List.append_nil]
        exact Ams.cons (az _) hams
      · intro q hq
        rcases List.mem_cons.mp hq with rfl | hq
        · exact ⟨by decide, by decide⟩
        · exact sH q hq
      · rw [List.length_map]; omega
      have e2 := e1.trans n2
      walk_at "go"
      refine r_lcQ rfl ha (kp0 e2) fun D2 hD2 => ⟨fun i H3 => ∃ acc : List V, H3 D2 = some (.lst acc) ∧ RowsIs K H3 acc ((os.take i).map (wrow (maxQ 0 (os.map (·.h))))) ∧ Ext [] H2 H3, ?_, ?_, ?_, ?_⟩
      · exact ⟨[], upd_same, Rel.nil, Ext.refl.new hD2⟩
      · rintro j H3 ⟨acc, _, _, e⟩
        exact kp0 (e2.trans e)
      · rintro j y H3 hy ⟨acc, hacc3, hrel, e3⟩
        obtain ⟨o, hr, hrow⟩ := hos.at_ hy
        obtain ⟨at2, hv, rfl, ht, hh⟩ := hrow.x0 (e2.trans e3)
        have hl := hrel.1
        rw [List.length_map, List.length_take] at hl
        walk_at "go"
        refine ⟨rfl, ?_⟩
        walk_at "go"
        rename_i p1 hp1 p2 hp2
        have m := ((Ext.refl (S := []) (H := H3)).new (o := .tup [.ref z, hv]) hp1).new (o := .tup [.ref p1, .int (o.w : Int), tv]) hp2
        have hr3 : RowIs K (upd (upd H3 p1 (.tup [.ref z, hv])) p2 (.tup [.ref p1, .int (o.w : Int), tv])) (.ref p2) (wrow (maxQ 0 (os.map (·.h))) o) := ⟨p2, .ref p1, tv, rfl, by walk_at "sq", ⟨p1, .ref z, hv, rfl, by walk_at "sq", az _, hh.x0 m⟩, (at_.x0 e3).x0 m⟩
        have hac := m _ _ hacc3 fun z => nomatch z
        have hrel' := hrel.imp fun _ _ q => RowIs.x0 m q
        generalize upd (upd H3 p1 (.tup [.ref z, hv])) p2 (.tup [.ref p1, .int (o.w : Int), tv]) = H4 at *
        refine ⟨acc, hac, Nat.lt_of_le_of_lt (by omega : acc.length ≤ 4000) (by decide), acc ++ [.ref p2], upd_same, ?_, (e3.trans m).own hD2⟩
        rw [take_map' hr]
        exact (RowsIs.w hac hrel').app (.cons (hr3.w hac) .nil)
      · rintro H3 ⟨rs, hacc3, hrel, e3⟩
        rw [hos.1, List.take_length] at hrel
        have e13 := e2.trans e3
        walk_at "go"
        refine ⟨s, tv, D2, rs, _, D, E, M, B, S, _, rfl, .inl (.inl (.inl hacc3)), hrel, hs.x0 e13, at_.x0 e3, W.lev, fun yv y X H4 L X0 dv X9 iy n4 ay => ?_⟩
        walk_at "go"
        refine ⟨D2, rs, _, yv, y, X, M, M, rfl, .inl (.inl (.inl (n4 _ _ hacc3 fun z => nomatch z))), hrel.x0 n4, ay, ⟨X0, x220 X9, W.M9, Nat.le_trans W.M9 (by decide), fun r hr => (W.rows r hr).up (Nat.dvd_trans W.dE dv), iy, by rw [List.length_map]; exact ln⟩, fun c zs H5 hc hz ams n5 => ?_⟩
        have e14 := e13.trans n4
        refine k c zs _ X H5 (lev_filled W.ok (fun o ho => SpOk.le_top (h := 0) ho) W.goal.nn L) X0 X9 (fun q hq => ?_) (e14.free hc) hz ams (e14.trans n5)
        obtain ⟨r, hr, rfl⟩ := List.mem_map.mp hq
        exact ((W.rows r hr).up (Nat.dvd_trans W.dE dv)).at_ iy
end
end Yk

set_option maxHeartbeats 8000000
namespace Yk
open PySem PySem.Spec PyProof.Rows L2

/-! Filling step by step. -/
def wk (os : List Want) (k : Nat) : Nat := (os.getD k ⟨1, 0⟩).w
def hk (os : List Want) (k : Nat) : Rat := (os.getD k ⟨1, 0⟩).h
def wq (os : List Want) (k : Nat) : Rat := (wk os k : Rat)
def sH (os : List Want) (ks : List Nat) : Rat := sumQ (ks.map (hk os))
def sW (os : List Want) (ks : List Nat) : Rat := sumQ (ks.map (wq os))
def nW (os : List Want) (ks : List Nat) : Nat := (ks.map (wk os)).sum
theorem sumQ_app : ∀ a b : List Rat, sumQ (a ++ b) = sumQ a + sumQ b
  | [], b => by rw [List.nil_append]; exact (Rat.zero_add _).symm
  | q :: a, b => by rw [List.cons_append, sumQ_cons, sumQ_cons, sumQ_app a b, Rat.add_assoc]
section
variable {os : List Want} {D M : Nat}
theorem get_wh {k : Nat} {o : Want} (h : os[k]? = some o) : wk os k = o.w ∧ hk os k = o.h := by
  unfold wk hk
  rw [List.getD_eq_getElem?_getD, h]
  exact ⟨rfl, rfl⟩
theorem nW_q (ks : List Nat) : ((nW os ks : Nat) : Rat) = sW os ks := by
  induction ks with
  | nil => rfl
  | cons k ks ih =>
    show (((wk os k + nW os ks : Nat)) : Rat) = sumQ (wq os k :: ks.map (wq os))
    rw [sumQ_cons]
    push_cast
    rw [ih]
    rfl
theorem nW_i (ks : List Nat) : (ks.map fun k => ((wk os k : Nat) : Int)).sum = ((nW os ks : Nat) : Int) := by
  induction ks with
  | nil => rfl
  | cons k ks ih =>
    show ((wk os k : Nat) : Int) + (ks.map fun k => ((wk os k : Nat) : Int)).sum = ((wk os k + nW os ks : Nat) : Int)
    rw [ih]
    push_cast
    rfl
theorem wk_ok (ok : ∀ o ∈ os, WantOk D M o) (k : Nat) : 0 < wk os k ∧ wk os k ≤ 12 := by
  cases e : os[k]? with
  | none => unfold wk; rw [List.getD_eq_getElem?_getD, e]; exact ⟨by decide, by decide⟩
  | some o => rw [(get_wh e).1]; have := ok o (List.mem_of_getElem? e); exact ⟨this.w0, this.w12⟩
theorem hk_in (ok : ∀ o ∈ os, WantOk D M o) (k : Nat) : In D M (hk os k) := by
  cases e : os[k]? with
  | none => unfold hk; rw [List.getD_eq_getElem?_getD, e]; exact In.zero
  | some o => rw [(get_wh e).2]; exact (ok o (List.mem_of_getElem? e)).h
theorem nW_le (ok : ∀ o ∈ os, WantOk D M o) : ∀ ks : List Nat, nW os ks ≤ 12 * ks.length
  | [] => Nat.zero_le _
  | k :: ks => by
    have h := nW_le ok ks
    have h2 := (wk_ok ok k).2
    show wk os k + nW os ks ≤ 12 * (ks.length + 1)
    omega
theorem wq0 (ok : ∀ o ∈ os, WantOk D M o) (k : Nat) : (1 : Rat) ≤ wq os k := by
  have h := (wk_ok ok k).1
  unfold wq
  exact_mod_cast h
theorem sW_nn (ok : ∀ o ∈ os, WantOk D M o) : ∀ ks : List Nat, 0 ≤ sW os ks
  | [] => Rat.le_refl
  | k :: ks => by
    have h := sW_nn ok ks
    have h2 := wq0 ok k
    show 0 ≤ sumQ (wq os k :: ks.map (wq os))
    rw [sumQ_cons]
    unfold sW at h
    grind
theorem sW_pos (ok : ∀ o ∈ os, WantOk D M o) {ks : List Nat} (h : ks ≠ []) : 0 < sW os ks := by
  cases ks with
  | nil => exact absurd rfl h
  | cons k ks =>
    have h := sW_nn ok ks
    have h2 := wq0 ok k
    show 0 < sumQ (wq os k :: ks.map (wq os))
    rw [sumQ_cons]
    unfold sW at h
    grind
theorem sH_app (a b : List Nat) : sH os (a ++ b) = sH os a + sH os b := by unfold sH; rw [List.map_append, sumQ_app]
theorem sW_app (a b : List Nat) : sW os (a ++ b) = sW os a + sW os b := by unfold sW; rw [List.map_append, sumQ_app]
theorem sH_perm {a b : List Nat} (p : a.Perm b) : sH os a = sH os b := sumQ_perm (p.map _)
theorem sW_perm {a b : List Nat} (p : a.Perm b) : sW os a = sW os b := sumQ_perm (p.map _)
theorem sum_mul {left T : Rat} : ∀ {ks : List Nat}, (∀ k ∈ ks, hk os k * T ≤ left * wq os k) → sH os ks * T ≤ left * sW os ks
  | [], _ => by show (0 : Rat) * T ≤ left * 0; grind
  | k :: ks, h => by
    have h1 := h k List.mem_cons_self
    have h2 := sum_mul (ks := ks) fun x hx => h x (List.mem_cons_of_mem _ hx)
    show sumQ (hk os k :: ks.map (hk os)) * T ≤ left * sumQ (wq os k :: ks.map (wq os))
    rw [sumQ_cons, sumQ_cons]
    unfold sH sW at h2
    grind
theorem cancel_le {x y T : Rat} (hT : 0 < T) (h : x * T ≤ y * T) : x ≤ y := Rat.not_lt.mp fun z => by
  have := Rat.mul_pos (a := x - y) (b := T) (by grind) hT
  grind
theorem big_aux {left T lam w h : Rat} (el : lam * T = left) (hb : left * w < h * T) (T0 : 0 < T) : w * lam < h := by
  subst el
  refine Rat.not_le.mp fun z => ?_
  have h3 := Rat.mul_le_mul_of_nonneg_right (a := h) (b := w * lam) (c := T) z (by grind)
  grind
theorem small_aux {left T lam w h : Rat} (el : lam * T = left) (hb : h * T ≤ left * w) (T0 : 0 < T) : h ≤ w * lam := by
  subst el
  exact cancel_le T0 (by grind)
/-- the filling so far -/
structure XI (os : List Want) (S left : Rat) (done todo : List Nat) (gs : List Rat) : Prop where
  perm : (done ++ todo).Perm (List.range os.length)
  hleft : left + sH os done = S
  l0 : 0 ≤ left
  len : gs.length = os.length
  got : ∀ k ∈ done, gs[k]? = some (hk os k)
  lam : ∀ k ∈ done, hk os k * sW os todo ≤ left * wq os k
variable {S left : Rat} {done todo : List Nat} {gs gs' : List Rat}
theorem XI.lt (I : XI os S left done todo gs) {k : Nat} (h : k ∈ done ∨ k ∈ todo) : k < os.length := List.mem_range.mp (I.perm.subset (List.mem_append.mpr h))
theorem XI.cases (I : XI os S left done todo gs) {k : Nat} (h : k < os.length) : k ∈ done ∨ k ∈ todo := List.mem_append.mp (I.perm.symm.subset (List.mem_range.mpr h))
theorem gs_eq {F : Want → Rat} (hl : gs.length = os.length) (h : ∀ (k : Nat) (o : Want), os[k]? = some o → gs[k]? = some (F o)) : gs = os.map F := by
  apply List.ext_getElem?
  intro k
  rw [List.getElem?_map]
  cases e : os[k]? with
  | none =>
    have h1 : os.length ≤ k := by simpa using e
    have : gs[k]? = none := by simpa [hl] using h1
    rw [this]
    rfl
  | some o => rw [h k o e]; rfl
theorem sum_range {F : Want → Rat} (os : List Want) : sumQ (os.map F) = sumQ ((List.range os.length).map fun k => F (os.getD k ⟨1, 0⟩)) := by
  congr 1
  apply List.ext_getElem?
  intro k
  rw [List.getElem?_map, List.getElem?_map]
  by_cases h : k < os.length
  · rw [List.getElem?_range h, List.getElem?_eq_getElem h]
    simp [List.getD_eq_getElem?_getD, h]
  · rw [List.getElem?_eq_none (by omega), List.getElem?_eq_none (by simp; omega)]
    rfl
theorem XI.all (I : XI os S left done [] gs) : Filled os S gs := by
  have h1 : gs = os.map (·.h) := gs_eq I.len fun k o e => by
    rcases I.cases (List.getElem?_eq_some_iff.mp e).1 with h | h
    · rw [I.got k h, (get_wh e).2]
    · cases h
  refine .inl ⟨h1, ?_⟩
  rw [h1, sum_range os]
  have h2 : sH os done = sumQ ((List.range os.length).map fun k => (os.getD k ⟨1, 0⟩).h) := sH_perm (by have := I.perm; rwa [List.append_nil] at this)
  rw [← h2]
  have := I.hleft
  have := I.l0
  grind
theorem XI.part (I : XI os S left done todo gs) (ok : ∀ o ∈ os, WantOk D M o) (hn : todo ≠ []) (hl : gs'.length = os.length) (h1 : ∀ k ∈ done, gs'[k]? = some (hk os k)) (h2 : ∀ k ∈ todo, gs'[k]? = some (left * (wq os k / sW os todo)))
    (hb : ∀ k ∈ todo, left * wq os k < hk os k * sW os todo) : Filled os S gs' := by
  have T0 := sW_pos ok hn
  obtain ⟨lam, hlam⟩ : ∃ x, x = left / sW os todo := ⟨_, rfl⟩
  have el : lam * sW os todo = left := by rw [hlam]; grind
  have lam0 : 0 ≤ lam := by
    refine Rat.not_lt.mp fun z => ?_
    have := Rat.mul_pos (a := -lam) (b := sW os todo) (by grind) T0
    have := I.l0
    grind
  have ev : ∀ k, left * (wq os k / sW os todo) = wq os k * lam := fun k => by rw [hlam]; grind
  have big : ∀ k ∈ todo, wq os k * lam < hk os k := fun k hk' => big_aux el (hb k hk') T0
  have small : ∀ k ∈ done, hk os k ≤ wq os k * lam := fun k hk' => small_aux el (I.lam k hk') T0
  clear hlam
  have val : ∀ (k : Nat) (o : Want), os[k]? = some o → gs'[k]? = some (o.at_ lam) := fun k o e => by
    obtain ⟨e1, e2⟩ := get_wh e
    have ew : wq os k = (o.w : Rat) := by unfold wq; rw [e1]
    rcases I.cases (List.getElem?_eq_some_iff.mp e).1 with h | h
    · rw [h1 k h]
      have h3 := small k h
      rw [ew, e2] at h3
      rw [e2]
      congr 1
      show o.h = lmin o.h ((o.w : Rat) * lam)
      generalize (o.w : Rat) * lam = z at *
      unfold lmin
      grind
    · rw [h2 k h, ev]
      have h3 := big k h
      rw [ew, e2] at h3
      rw [ew]
      congr 1
      show (o.w : Rat) * lam = lmin o.h ((o.w : Rat) * lam)
      generalize (o.w : Rat) * lam = z at *
      unfold lmin
      grind
  have hg := gs_eq hl val
  refine .inr ⟨lam, lam0, hg, ?_, ?_⟩
  · rw [hg, sum_range os]
    have h3 : sumQ ((List.range os.length).map fun k => (os.getD k ⟨1, 0⟩).at_ lam) = sumQ ((done ++ todo).map fun k => (os.getD k ⟨1, 0⟩).at_ lam) := sumQ_perm (I.perm.symm.map _)
    rw [h3, List.map_append, sumQ_app]
    have h4 : (done.map fun k => (os.getD k ⟨1, 0⟩).at_ lam) = done.map (hk os) := List.map_congr_left fun k hk' => by
      have h5 := small k hk'
      show lmin (hk os k) (wq os k * lam) = hk os k
      generalize wq os k * lam = z at *
      unfold lmin
      grind
    have h6 : (todo.map fun k => (os.getD k ⟨1, 0⟩).at_ lam) = todo.map fun k => lam * wq os k := List.map_congr_left fun k hk' => by
      have h5 := big k hk'
      show lmin (hk os k) (wq os k * lam) = lam * wq os k
      rw [Rat.mul_comm lam]
      generalize wq os k * lam = z at *
      unfold lmin
      grind
    have h7 : ∀ ks : List Nat, sumQ (ks.map fun k => lam * wq os k) = lam * sW os ks := fun ks => by
      induction ks with
      | nil => show (0 : Rat) = lam * 0; grind
      | cons k ks ih =>
        show sumQ (lam * wq os k :: ks.map fun k => lam * wq os k) = lam * sumQ (wq os k :: ks.map (wq os))
        rw [sumQ_cons, sumQ_cons, ih]
        unfold sW
        grind
    rw [h4, h6, h7, el]
    have := I.hleft
    unfold sH at this
    grind
  · cases todo with
    | nil => exact absurd rfl hn
    | cons k ks =>
      have hlt := I.lt (.inr List.mem_cons_self)
      have e := List.getElem?_eq_getElem hlt
      obtain ⟨e1, e2⟩ := get_wh e
      have h3 := big k List.mem_cons_self
      have ew : wq os k = (os[k].w : Rat) := by unfold wq; rw [e1]
      rw [ew, e2] at h3
      exact ⟨os[k], List.getElem_mem hlt, h3⟩
/-- a part of the full ones can be paid -/
theorem XI.pay (I : XI os S left done todo gs) (ok : ∀ o ∈ os, WantOk D M o) {fs : List Nat} {rest : List Nat} (hp : (fs ++ rest).Perm todo) (hf : ∀ k ∈ fs, hk os k * sW os todo ≤ left * wq os k) : sH os fs ≤ left := by
  cases fs with
  | nil => exact I.l0
  | cons k fs =>
    have e : sW os todo = sW os (k :: fs) + sW os rest := by rw [← sW_perm hp, sW_app]
    have h1 := sum_mul hf
    have h2 := sW_nn ok rest
    have h3 := sW_pos ok (ks := k :: fs) (by simp)
    have T0 : 0 < sW os todo := by grind
    refine cancel_le T0 (Rat.le_trans h1 ?_)
    exact Rat.mul_le_mul_of_nonneg_left (by grind) I.l0
theorem XI.step (I : XI os S left done todo gs) (ok : ∀ o ∈ os, WantOk D M o) {fs rest : List Nat} (hp : (fs ++ rest).Perm todo) (hf : ∀ k ∈ fs, hk os k * sW os todo ≤ left * wq os k) (hn : fs ≠ [])
    (hl : gs'.length = os.length) (h1 : ∀ k ∈ done, gs'[k]? = some (hk os k)) (h2 : ∀ k ∈ fs, gs'[k]? = some (hk os k)) : XI os S (left - sH os fs) (done ++ fs) rest gs' := by
  have h0 := I.pay ok hp hf
  have e : sW os todo = sW os fs + sW os rest := by rw [← sW_perm hp, sW_app]
  have w1 := sW_pos ok hn
  have w2 := sW_nn ok rest
  have T0 : 0 < sW os todo := by grind
  have hs := sum_mul hf
  refine ⟨?_, ?_, by grind, hl, ?_, ?_⟩
  · rw [List.append_assoc]
    exact (hp.append_left done).trans I.perm
  · rw [sH_app]
    have := I.hleft
    grind
  · intro k hk'
    rcases List.mem_append.mp hk' with h | h
    · exact h1 k h
    · exact h2 k h
  · intro k hk'
    have hkT : hk os k * sW os todo ≤ left * wq os k := by
      rcases List.mem_append.mp hk' with h | h
      · exact I.lam k h
      · exact hf k h
    have hw := wq0 ok k
    refine cancel_le T0 ?_
    have a1 : hk os k * sW os todo * sW os rest ≤ left * wq os k * sW os rest := Rat.mul_le_mul_of_nonneg_right hkT w2
    have a2 : left * sW os rest ≤ (left - sH os fs) * sW os todo := by rw [e] at hs ⊢; grind
    have a3 : left * sW os rest * wq os k ≤ (left - sH os fs) * sW os todo * wq os k := Rat.mul_le_mul_of_nonneg_right a2 (by grind)
    grind
theorem filter_not_mem {α : Type} [DecidableEq α] (l : List α) (p : α → Bool) : l.filter (fun k => !decide (k ∈ l.filter p)) = l.filter fun k => !p k :=
  List.filter_congr fun k hk => by
    congr 1
    rw [Bool.eq_iff_iff, decide_eq_true_iff, List.mem_filter]
    exact ⟨fun h => h.2, fun h => ⟨hk, h⟩⟩
end
/-! lists of indices as they stand -/
def iv (ks : List Nat) : List V := ks.map fun (k : Nat) => V.int (k : Int)
theorem iv_get {ks : List Nat} {i : Nat} {v : V} (h : (iv ks)[i]? = some v) : ∃ k, ks[i]? = some k ∧ v = .int (k : Int) := by
  unfold iv at h
  rw [List.getElem?_map] at h
  cases e : ks[i]? with
  | none => rw [e] at h; cases h
  | some k => rw [e] at h; cases h; exact ⟨k, rfl, rfl⟩
theorem iv_snoc (ks : List Nat) (k : Nat) : iv (ks ++ [k]) = iv ks ++ [.int (k : Int)] := by unfold iv; rw [List.map_append]; rfl
theorem iv_len (ks : List Nat) : (iv ks).length = ks.length := by unfold iv; rw [List.length_map]
theorem iv_flat (ks : List Nat) : (iv ks).all flatV = true := by
  rw [List.all_eq_true]
  intro v hv
  obtain ⟨k, _, rfl⟩ := List.mem_map.mp hv
  rfl
theorem iv_in (k : Nat) (ks : List Nat) : inV (.int (k : Int)) (iv ks) = decide (k ∈ ks) := by
  unfold inV iv
  rw [Bool.eq_iff_iff, decide_eq_true_iff, List.any_eq_true]
  constructor
  · rintro ⟨v, hv, e⟩
    obtain ⟨j, hj, rfl⟩ := List.mem_map.mp hv
    have e2 : (j : Int) = (k : Int) := by simpa [eqV] using e
    have : j = k := by omega
    rw [← this]
    exact hj
  · intro h
    exact ⟨_, List.mem_map_of_mem h, by simp [eqV]⟩
section
variable {K : PySem.W.Frag} {H : Hp} {Q : VK}
theorem dp_iv : ∀ ks : List Nat, ∃ ds, DpAll K H (iv ks) ds ∧ PyData.canLayAll0 ds = true ∧ PyData.depthAll ds ≤ 3 ∧ ds.length = ks.length
  | [] => ⟨[], .nil, rfl, by simp [PyData.depthAll], rfl⟩
  | k :: ks => by
    obtain ⟨ds, b1, b2, b3, b4⟩ := dp_iv ks
    exact ⟨.int k :: ds, .cons (.int _) b1, by simp [PyData.canLayAll0, PyData.canLay0, b2], by simp [PyData.depthAll, PyData.depth]; omega, by simp [b4]⟩
theorem dp_ams : ∀ {xs : List V} {qs : List Rat}, Ams K H xs qs → ∃ ds, DpAll K H xs ds ∧ PyData.canLayAll0 ds = true ∧ PyData.depthAll ds ≤ 3 ∧ ds.length = qs.length
  | [], [], _ => ⟨[], .nil, rfl, by simp [PyData.depthAll], rfl⟩
  | v :: xs, q :: qs, h => by
    have h1 : Am K H v q := h.2 0 v q rfl rfl
    have h2 : Ams K H xs qs := ⟨by simpa using h.1, fun i w u a b => h.2 (i + 1) w u (by simpa using a) (by simpa using b)⟩
    obtain ⟨ds, b1, b2, b3, b4⟩ := dp_ams h2
    exact ⟨_ :: ds, .cons (dp_am h1) b1, by simp [PyData.canLayAll0, PyData.canLay0, b2], by simp [PyData.depthAll, PyData.depth]; omega, by simp [b4]⟩
  | [], _ :: _, h => absurd h.1 (by simp)
  | _ :: _, [], h => absurd h.1 (by simp)
theorem eq_nil {c p : Addr} {xs : List V} {ds : List PyData} {n : Nat} (h : DpAll K H xs ds) (h1 : PyData.canLayAll0 ds = true) (h2 : PyData.depthAll ds ≤ 3) (hn : ds.length = n) (hc : SqL K H c xs) (hp : SqL K H p []) (k : Q (.bl (decide (n = 0))) H) : rEqD K (.ref c) (.ref p) H Q := by
  refine ⟨.list ds, .list [], .lst hc h, .lst hp .nil, ?_, rfl, ?_⟩
  · simp [SeqAt.shaped, PyData.canLay0, h1, PyData.depth]
    omega
  · have e : PyData.eqv (.list ds) (.list []) = decide (n = 0) := by
      cases ds with
      | nil => simp at hn; subst hn; rfl
      | cons d ds => simp at hn; subst hn; rfl
    rw [e]
    exact k
theorem set_self {l : List Rat} {k : Nat} {q : Rat} (h : k < l.length) : (l.set k q)[k]? = some q := by rw [List.getElem?_set_self h]
end
section
variable {P : Program} {w : World} {K : PySem.W.Frag} {mg : Str → Option Value} {base : Heap} {f : Addr} {fd : FuncData}
def spWants (K : PySem.W.Frag) : Sp := fun vs H Q _ => ∃ (b : Bag), vs = [.ref b.a] ∧ BagAt K H b ∧
  ∀ (c : Addr) (xs : List V) (os : List Want) (g : Nat) H', 0 < g → g ≤ 2 ^ 60 → H c = none → H' c = some (.lst xs) → WantsIs K H' xs os → (∀ o ∈ os, WantOk (12 * g) 2048 o) → os.length ≤ 7 → BagAt K H' b → Ext [b.a] H H' → Q (.ref c) H'
end
end Yk

set_option maxHeartbeats 8000000
namespace Yk
open PySem PySem.Spec PyProof.Rows L2

theorem sz70 {X : Nat} {q : Rat} {M : Nat} (h : In X M q) (h0 : 0 < X) (h9 : X ≤ 2 ^ 400) (hM : M ≤ 2 ^ 40) : Sz 4000 q := (h.sz h0 h9 hM).mono (by decide)
theorem take_snoc {α : Type} {l : List α} {i : Nat} {x : α} (h : l[i]? = some x) : l.take (i + 1) = l.take i ++ [x] := by
  obtain ⟨hl, e⟩ := List.getElem?_eq_some_iff.mp h
  rw [← List.take_append_getElem hl, e]
theorem XI.disj {os : List Want} {S left : Rat} {done todo : List Nat} {gs : List Rat} (I : XI os S left done todo gs) {k : Nat} (h1 : k ∈ done) (h2 : k ∈ todo) : False := by
  have h := I.perm.symm.nodup List.nodup_range
  exact (List.nodup_append.mp h).2.2 k h1 k h2 rfl
theorem XI.regs {os : List Want} {S left : Rat} {done todo : List Nat} {gs gs' : List Rat} (I : XI os S left done todo gs) (hl : gs'.length = os.length) (h1 : ∀ k ∈ done, gs'[k]? = some (hk os k)) : XI os S left done todo gs' := { I with len := hl, got := h1 }
theorem XI.zero {os : List Want} {S : Rat} {gs : List Rat} (h : 0 ≤ S) (hl : gs.length = os.length) : XI os S S [] (List.range os.length) gs :=
  ⟨List.Perm.refl _, by show S + 0 = S; rw [Rat.add_zero], h, hl, fun k hk' => absurd hk' (by simp), fun k hk' => absurd hk' (by simp)⟩
theorem lsub {left : Rat} {os : List Want} {fs : List Nat} {i k : Nat} (h : fs[i]? = some k) : left - sH os (fs.take (i + 1)) = left - sH os (fs.take i) - hk os k := by
  rw [take_snoc h, sH_app]
  have : sH os [k] = hk os k := by show sumQ (hk os k :: []) = _; rw [sumQ_cons]; exact Rat.add_zero _
  rw [this]
  grind
section
variable {P : Program} {w : World} {K : PySem.W.Frag} {mg : Str → Option Value} {base : Heap} {f : Addr} {fd : FuncData}
def spExtras (K : PySem.W.Frag) : Sp := fun vs H Q _ => ∃ (s : V) (a : Addr) (xs : List V) (os : List Want) (D E M B : Nat) (S : Rat), vs = [s, .ref a] ∧ SqL K H a xs ∧ WantsIs K H xs os ∧ Am K H s S ∧ SpOk D E M B os S ∧
  ∀ (c : Addr) (zs : List V) (gs : List Rat) H', Filled os S gs → H c = none → H' c = some (.lst zs) → Ams K H' zs gs → Ext [] H H' → Q (.ref c) H'
end
end Yk

set_option maxHeartbeats 8000000
namespace Yk
open PySem PySem.Spec PyProof.Rows L2

theorem all_false (m : Nat) : (List.replicate m false).any id = false := by
  rw [List.any_eq_false]
  intro x hx
  rw [List.eq_of_mem_replicate hx]
  decide
section
variable {os : List Want} {S : Rat} {gs : List Rat} {D M : Nat}
theorem Filled.len (F : Filled os S gs) : gs.length = os.length := by
  rcases F with ⟨e, _⟩ | ⟨l, _, e, _⟩ <;> rw [e, List.length_map]
theorem Filled.le (F : Filled os S gs) {i : Nat} {g : Rat} {o : Want} (hg : gs[i]? = some g) (ho : os[i]? = some o) : g ≤ o.h := by
  rcases F with ⟨e, _⟩ | ⟨l, _, e, _⟩
  · rw [e, List.getElem?_map, ho] at hg
    cases hg
    exact Rat.le_refl
  · rw [e, List.getElem?_map, ho] at hg
    cases hg
    exact o.le l
theorem Filled.sum (F : Filled os S gs) : sumQ gs = lmin S (sumQ (os.map (·.h))) := by
  rcases F with ⟨e, h⟩ | ⟨l, _, e, h, _⟩
  · rw [← e]
    unfold lmin
    grind
  · have h2 : sumQ (os.map fun o => o.at_ l) ≤ sumQ (os.map (·.h)) := sum_le_map fun o _ => o.le l
    rw [← e, h] at h2
    rw [h]
    unfold lmin
    grind
theorem div_mul {g w : Rat} (h : 0 < w) : g / w * w = g := by grind
theorem Filled.lam (F : Filled os S gs) (ok : ∀ o ∈ os, WantOk D M o) : ∃ (lam : Rat) (Pp : Prop), (∀ (i : Nat) (g : Rat) (o : Want), gs[i]? = some g → os[i]? = some o → g ≠ o.h → g / (o.w : Rat) = lam ∧ Pp) ∧ (Pp → ∀ (i : Nat) (g : Rat) (o : Want), gs[i]? = some g → os[i]? = some o → g / (o.w : Rat) ≤ lam) := by
  rcases F with ⟨e, _⟩ | ⟨l, _, e, _⟩
  · refine ⟨0, False, fun i g o hg ho hn => ?_, fun h => h.elim⟩
    rw [e, List.getElem?_map, ho] at hg
    cases hg
    exact absurd rfl hn
  · refine ⟨l, True, fun i g o hg ho hn => ?_, fun _ i g o hg ho => ?_⟩
    · have w0 := natP (ok o (List.mem_of_getElem? ho)).w0
      rw [e, List.getElem?_map, ho] at hg
      cases hg
      have hn : o.at_ l ≠ o.h := hn
      have h1 : o.at_ l = (o.w : Rat) * l := by
        unfold Want.at_ lmin at hn ⊢
        generalize (o.w : Rat) * l = z at *
        grind
      have h2 := div_mul (g := o.at_ l) w0
      generalize o.at_ l / (o.w : Rat) = x at *
      rw [h1] at h2
      refine ⟨?_, trivial⟩
      have h3 : (x - l) * (o.w : Rat) = 0 := by grind
      rcases Rat.mul_eq_zero.mp h3 with h | h <;> grind
    · have w0 := natP (ok o (List.mem_of_getElem? ho)).w0
      rw [e, List.getElem?_map, ho] at hg
      cases hg
      have h1 : o.at_ l ≤ (o.w : Rat) * l := lmin_le2 _ _
      have h2 := div_mul (g := o.at_ l) w0
      generalize o.at_ l / (o.w : Rat) = x at *
      refine cancel_le w0 ?_
      grind
end
section
variable {P : Program} {w : World} {K : PySem.W.Frag} {mg : Str → Option Value} {base : Heap} {f : Addr} {fd : FuncData}
def spFilledSo (K : PySem.W.Frag) : Sp := fun vs H Q _ => ∃ (s : V) (a c : Addr) (xs : List V) (os : List Want) (zs : List V) (gs : List Rat) (D E M B X : Nat) (S : Rat), vs = [.ref a, s, .ref c] ∧ SqL K H a xs ∧ WantsIs K H xs os ∧ SqL K H c zs ∧ Ams K H zs gs ∧ Am K H s S ∧ SpOk D E M B os S ∧ Filled os S gs ∧ 0 < X ∧ X ≤ 2 ^ 310 ∧ (∀ q ∈ gs, In X M q) ∧ ∀ H', Ext [] H H' → Q (.bl true) H'
end
end Yk

set_option maxHeartbeats 1000000
/-! Classes: fields, methods and making by names; all promises are told by place. -/
namespace Yk
open PySem PySem.Spec PyProof.Rows L2
/-- a class of the text: its name's place, and the fields that its text has not -/
structure Ct (K : PySem.W.Frag) (mg : Str → Option Value) (x : Str) (C : Addr) (fs : List Str) : Prop where
  hm : mg x = some (.ref C)
  cls : Cls K C
  no : ∀ f ∈ fs, NoAttr K C f
/-- the object at a -/
def Ob (H : Hp) (C : Addr) (a : Addr) (fs : List (Str × V)) : Prop := ∃ dx, H a = some (.ins C dx fs)
theorem Ob.x {S : List Addr} {H H1 : Hp} {C a : Addr} {fs : List (Str × V)} (e : Ext S H H1) (h : Ob H C a fs) (hs : ∀ b ∈ S, ∃ l, H b = some (.lst l)) : Ob H1 C a fs := by
  obtain ⟨dx, h⟩ := h
  exact ⟨dx, e a _ h fun z => by obtain ⟨l, q⟩ := hs a z; rw [h] at q; cases q⟩
theorem Ob.x0 {H H1 : Hp} {C a : Addr} {fs : List (Str × V)} (e : Ext [] H H1) (h : Ob H C a fs) : Ob H1 C a fs := h.x e fun _ z => nomatch z
section
variable {X : Cx} {C : Addr} {x f m : Str} {fs : List Str} {o e value : Expr} {pos pos' p apos : Pos} {te ta tv : TE}
/-- e.f -/
def tAt (C : Addr) (f : Str) (te : TE) : TE := fun σ H Q => te σ H fun x H1 => ∃ a dx fs v, x = .ref a ∧ H1 a = some (.ins C dx fs) ∧ fs.lookup f = some v ∧ Q v H1
theorem pe_at (c : Ct X.K X.mg x C fs) (hf : f ∈ fs) (he : PE X e te) (hb : attributeBase e f X.env (eval e X.env) = eval e X.env := by rfl) : PE X (.Attribute e f pos) (tAt C f te) := by
  refine ⟨fun pins s σ H Q I h => ?_⟩
  refine attr_of hb (thn (he.run pins s σ H _ I h) fun u s1 ⟨x, H1, I1, rx, a, dx, fs, v, ex, ea, l, q⟩ => ?_)
  subst ex
  obtain rfl : u = Value.ref a := rx
  exact getattr_ok I1 ea c.cls (c.no _ hf) l fun u' s2 I2 ru => ⟨v, H1, I2, ru, q⟩
theorem r_at {a : Addr} {v : V} {fs : List (Str × V)} {σ : L2.St} {H : Hp} {Q : VK} (h1 : Ob H C a fs) (h2 : fs.lookup f = some v) (h : Q v H) : (fun x H1 => ∃ a dx fs v, x = V.ref a ∧ H1 a = some (.ins C dx fs) ∧ fs.lookup f = some v ∧ Q v H1) (V.ref a) H := by
  obtain ⟨dx, h1⟩ := h1
  exact ⟨a, dx, fs, v, rfl, h1, h2, h⟩
/-- e.f = value -/
def sAt (C : Addr) (f : Str) (te tv : TE) : TS := fun D σ H => tv σ H fun y H1 => te σ H1 fun x H2 => ∃ a dx fs, x = .ref a ∧ H2 a = some (.ins C dx fs) ∧ fs.length < 1000 ∧ D.nx σ (upd H2 a (.ins C dx (putF f y fs)))
theorem ps_at (c : Ct X.K X.mg x C fs) (hf : f ∈ fs) (ha : PE X o te) (hv : PE X value tv) (hs : swapsWith value (some (.Attribute o f pos')) pos.line X.env = pure false := by rfl) : PS X (.Assign [.Attribute o f pos'] value pos) (sAt C f te tv) := by
  refine ⟨fun pins s σ H D I h => ?_⟩
  refine plainObj_wpAny_Assign_Attribute (thn (hv.run pins s σ H _ I h) fun u s1 ⟨y, H1, I1, ry, q⟩ => thn (ha.run pins s1 σ H1 _ I1 q) fun ov s2 ⟨x, H2, I2, rx, a, dx, fs, ex, ea, l, q2⟩ => ?_) hs
  subst ex
  obtain rfl : ov = Value.ref a := rx
  exact setattr_ok I2 ea c.cls (c.no _ hf) l ry fun s3 I3 => ⟨σ, _, I3, q2⟩
end
section
variable (P : Program) (w : World) (K : PySem.W.Frag) (mg : Str → Option Value) (base : Heap)
/-- a method -/
structure Mt (k : Nat) (C : Addr) (m : Str) (sp : Sp) : Prop where
  run : ∃ f, Cls K C ∧ Meth K C m f ∧ FnR P w K mg base CX0 k f sp
/-- what makes an object: by place -/
structure Cr (k : Nat) (x : Str) (C : Addr) (sp : Sp) : Prop where
  run : ∃ f, mg x = some (.ref C) ∧ Mk K C f ∧ FnR P w K mg base CX0 k f sp
/-- .. with n values by place and the keywords ks: the parameters (the object ahead) are gV's -/
structure CrK (k : Nat) (x : Str) (C : Addr) (n : Nat) (ks : List Str) (gV : List V → List V → List V) (sp : Sp) : Prop where
  run : ∃ f fd ps g, mg x = some (.ref C) ∧ Mk K C f ∧ FnOk P w K mg base CX0 k f fd ps sp ∧ KBn K fd ps (n + 1) ks g gV
end
section
variable {X : Cx} {k n : Nat} {C : Addr} {sp : Sp} {x m : Str} {o e : Expr} {es : List Expr} {kws : List Keyword} {pos p apos : Pos} {te : TE} {t tk : TA} {pl : Sem Bool} {ks : List Str} {gV : List V → List V → List V}
/-- o.m(..) -/
def tMt (C : Addr) (m : Str) (sp : Sp) (te : TE) (t : TA) : TE := fun σ H Q => te σ H fun x H1 => ∃ a dx fs, x = .ref a ∧ H1 a = some (.ins C dx fs) ∧ fs.lookup m = none ∧ t σ H1 fun vs H2 => sp (x :: vs) H2 Q E0
theorem pe_mt (F : Mt X.prog X.w X.K X.mg X.base k C m sp) (hr : Room k X.A) (he : PE X o te) (ha : PA X (e :: es) t) (hx : Passes CX0 X E0 := by exact pass0)
    (hst : starEach (e :: es) X.env = (false, eval e X.env) :: starEach es X.env := by rfl) (hpl : (backTo pos (starEach es X.env)).any (·.1) = false := by rfl)
    (ht : eval (.Call (.Attribute o m apos) (e :: es) [] pos) X.env = (do
      let ov ← eval o X.env
      standAt apos.atName
      let (f, first) ← holding [ov] (getMethod ov m pl)
      callWith pos f first (backTo pos (starEach (e :: es) X.env)) (backToKw pos (keywordEach [] X.env))) := by rfl) :
    PE X (.Call (.Attribute o m apos) (e :: es) [] pos) (tMt C m sp te t) := by
  obtain ⟨f, c, hm, F⟩ := F.run
  refine ⟨fun pins s σ H Q I h => ?_⟩
  refine PySem.W.methodCall_KW (pl := pl) (thn (he.run pins s σ H _ I h) fun u s1 ⟨x, H1, I1, rx, a, dx, fs, ex, ea, l, q⟩ => ?_) ht
  subst ex
  obtain rfl : u = Value.ref a := rx
  refine getmeth_ok I1 ea c hm l ?_
  refine PySem.W.callWith_K (first := [.ref a]) (h₀ := X.base) I.ok.mod.kin hm.kp (thn (ha.run pos pins s1 σ H1 _ I1 q) fun us s2 ⟨vs, H2, I2, r, q2⟩ => ⟨I2.kIn, ?_⟩) hst hpl
  exact wpAny_call (run_fnR (us := .ref a :: us) (vs := .ref a :: vs) F hr hx I2 (.cons rfl r) q2)
theorem pe_mt0 (F : Mt X.prog X.w X.K X.mg X.base k C m sp) (hr : Room k X.A) (he : PE X o te) (hx : Passes CX0 X E0 := by exact pass0)
    (ht : eval (.Call (.Attribute o m apos) [] [] pos) X.env = (do
      let ov ← eval o X.env
      standAt apos.atName
      let (f, first) ← holding [ov] (getMethod ov m pl)
      callWith pos f first (backTo pos (starEach [] X.env)) (backToKw pos (keywordEach [] X.env))) := by rfl) :
    PE X (.Call (.Attribute o m apos) [] [] pos) (tMt C m sp te tNil) := by
  obtain ⟨f, c, hm, F⟩ := F.run
  refine ⟨fun pins s σ H Q I h => ?_⟩
  refine PySem.W.methodCall_KW (pl := pl) (thn (he.run pins s σ H _ I h) fun u s1 ⟨x, H1, I1, rx, a, dx, fs, ex, ea, l, q⟩ => ?_) ht
  subst ex
  obtain rfl : u = Value.ref a := rx
  refine getmeth_ok I1 ea c hm l ?_
  exact PySem.W.callWith_K0 (first := [.ref a]) I1.kIn hm.kp (wpAny_call (run_fnR (us := [.ref a]) (vs := [.ref a]) F hr hx I1 (.cons rfl .nil) q))
/-- C(e, ..) -/
def tCr (C : Addr) (sp : Sp) (t : TA) : TE := fun σ H Q => t σ H fun vs H1 => ∀ x dx, H1 x = Option.none → H1 dx = Option.none → dx ≠ x → sp (V.ref x :: vs) (upd (upd H1 dx (.own x)) x (.ins C dx [])) (fun v H2 => v = .non ∧ Q (.ref x) H2) E0
theorem pe_cr (F : Cr X.prog X.w X.K X.mg X.base k x C sp) (hr : Room (k + 1) X.A) (ha : PA X (e :: es) t) (hg : Gl X x := by rfl) (hx : Passes CX0 X E0 := by exact pass0) (hdb : (x == ("__debug__" : Str)) = false := by decide)
    (he : starEach (e :: es) X.env = (false, eval e X.env) :: starEach es X.env := by rfl) (hpl : (backTo pos (starEach es X.env)).any (·.1) = false := by rfl) : PE X (.Call (.Name x p) (e :: es) [] pos) (tCr C sp t) := by
  obtain ⟨f, hm, M, F⟩ := F.run
  exact StX.pe_makeR M F hr hg hm hx ha hdb he hpl
/-- C(e, .., *x) -/
theorem pe_crS2 (F : Cr X.prog X.w X.K X.mg X.base k x C sp) (hr : Room (k + 1) X.A) (ha : PA X (e :: es) t) (hg : Gl X x := by rfl) (hx : Passes CX0 X E0 := by exact pass0) (hdb : (x == ("__debug__" : Str)) = false := by decide)
    (he : starEach (e :: es) X.env = (false, eval e X.env) :: starEach es X.env := by rfl) (hst : (backTo pos (starEach es X.env)).any (·.1) = true := by rfl) : PE X (.Call (.Name x p) (e :: es) [] pos) (tCr C sp t) := by
  obtain ⟨f, hm, M, F⟩ := F.run
  refine ⟨fun pins s σ H Q I h => ?_⟩
  refine wpAny_Call_Name_kw (ld_glob I hg hm ?_ hdb)
  refine PySem.W.callWith_S2 (h₀ := X.base) I.ok.mod.kin M.kp (thn (ha.run pos pins s σ H _ I h) fun us s1 ⟨vs, H1, I1, r, q⟩ => ⟨I1.kIn, ?_⟩) he hst
  exact StX.run_makeR M F hr hx I1 r q
/-- C(e, .., k = v, ..) -/
def tCrK (C : Addr) (n m : Nat) (sp : Sp) (gV : List V → List V → List V) (t tk : TA) : TE := fun σ H Q => t σ H fun vs H1 => tk σ H1 fun zs H2 => vs.length = n ∧ zs.length = m ∧ ∀ x dx, H2 x = none → H2 dx = none → dx ≠ x →
  sp (gV (.ref x :: vs) zs) (upd (upd H2 dx (.own x)) x (.ins C dx [])) (fun v H3 => v = .non ∧ Q (.ref x) H3) E0
theorem pe_crK (F : CrK X.prog X.w X.K X.mg X.base k x C n ks gV sp) (hr : Room (k + 1) X.A) (ha : PA X (e :: es) t) (hkw : PK X kws tk) (hg : Gl X x := by rfl) (hx : Passes CX0 X E0 := by exact pass0)
    (hall : (backToKw pos (keywordEach kws X.env)).all (·.1.isSome) = true := by rfl) (hks : (backToKw pos (keywordEach kws X.env)).filterMap (·.1) = ks := by rfl) (hdb : (x == ("__debug__" : Str)) = false := by decide)
    (he : starEach (e :: es) X.env = (false, eval e X.env) :: starEach es X.env := by rfl) (hpl : ((backTo pos (starEach (e :: es) X.env)).any (·.1) || (backToKw pos (keywordEach kws X.env)).any (·.1.isNone)) = false := by rfl) :
    PE X (.Call (.Name x p) (e :: es) kws pos) (tCrK C n ks.length sp gV t tk) := by
  obtain ⟨f, fd, ps, g, hm, M, F, hb⟩ := F.run
  exact pe_makeK M F hr hg hm hb hx ha hkw hall hks hdb he hpl
theorem pe_crK0 (F : CrK X.prog X.w X.K X.mg X.base k x C 0 ks gV sp) (hr : Room (k + 1) X.A) (hkw : PK X kws tk) (hg : Gl X x := by rfl) (hx : Passes CX0 X E0 := by exact pass0)
    (hall : (backToKw pos (keywordEach kws X.env)).all (·.1.isSome) = true := by rfl) (hks : (backToKw pos (keywordEach kws X.env)).filterMap (·.1) = ks := by rfl) (hdb : (x == ("__debug__" : Str)) = false := by decide)
    (hpl : ((backTo pos (starEach [] X.env)).any (·.1) || (backToKw pos (keywordEach kws X.env)).any (·.1.isNone)) = false := by rfl) :
    PE X (.Call (.Name x p) [] kws pos) (tCrK C 0 ks.length sp gV tNil tk) := by
  obtain ⟨f, fd, ps, g, hm, M, F, hb⟩ := F.run
  exact pe_makeK0 M F hr hg hm hb hx hkw hall hks hdb hpl
end
section
variable {P : Program} {w : World} {K : PySem.W.Frag} {mg : Str → Option Value} {base : Heap} {f C : Addr} {fd : FuncData} {x qual : Str} {params : Arguments} {body : List Stmt} {scope : Scope} {dvs : List V} {kws : List (Str × V)} {N ps : List Str} {k : Nat} {sp : Sp}
/-- a method (or a def with defaults) keeps its promise -/
theorem ok_meth (F : FunD K x qual params body scope dvs kws f fd) (S : FnScope N ps scope) (len : ∀ vs H Q E, sp vs H Q E → vs.length = ps.length)
    (hbody : ∀ (cdv : Value) (A : Around) (outer : List Env) (s : Shared) (H : Hp) (vs : List V) (Q : VK) (E : XK), Room k (A.deeper (envOfC qual scope s.heap.objs.size f cdv)) → sp vs H Q E →
      ∃ t, PSs (cxOf CX0 P w K mg base N qual scope f cdv A outer s H E).nox body t ∧ t ⟨fun _ H' => Q .non H', Q, fun _ _ => False, fun _ _ => False⟩ (start N vs) H) : FnOk P w K mg base CX0 (k + 1) f fd ps sp :=
  F.ok S len fun cdv A outer s H vs Q E hr h => by
    obtain ⟨t, h1, h2⟩ := hbody cdv A outer s H vs Q E hr h
    exact ⟨t, h1.nox, h2⟩
theorem raw_meth (F : FunD K x qual params body scope [] [] f fd) (G : FnOk P w K mg base CX0 k f fd ps sp)
    (hb : ∀ (kV doc pm : Value) (an : Option Addr) (cdv ct : Value) (us : List Value), us.length = ps.length → bindArgs (PySem.W.fnOf x qual params body scope .none kV doc pm an cdv ct) ⟨us, []⟩ = pure (ps.zip us)) : FnR P w K mg base CX0 k f sp := by
  have b := F.bindsN hb
  have R := G.raw b .nil
  refine R.imp fun vs H Q E h => ?_
  rw [List.append_nil]
  exact h
/-- def m(self, .., *v) -/
theorem raw_star {pv : Str} {sp' : Sp} (F : FunD K x qual params body scope [] [] f fd) (S : FnScope N (ps ++ [pv]) scope)
    (hb : ∀ (kV doc pm : Value) (an : Option Addr) (cdv ct : Value) (us rest : List Value), us.length = ps.length → bindArgs (PySem.W.fnOf x qual params body scope .none kV doc pm an cdv ct) ⟨us ++ rest, []⟩ = (newTuple rest >>= fun t => pure (ps.zip us ++ [(pv, t)])))
    (hbody : ∀ (cdv : Value) (A : Around) (outer : List Env) (s : Shared) (H : Hp) (vs : List V) (Q : VK) (E : XK), Room k (A.deeper (envOfC qual scope s.heap.objs.size f cdv)) → sp vs H Q E →
      ∃ t, PSs (cxOf CX0 P w K mg base N qual scope f cdv A outer s H E).nox body t ∧ t ⟨fun _ H' => Q .non H', Q, fun _ _ => False, fun _ _ => False⟩ (start N vs) H)
    (himp : ∀ vs H Q E, sp' vs H Q E → ∃ ws rest, vs = ws ++ rest ∧ ws.length = ps.length ∧ rest.length ≤ sizeLine ∧ ∀ p, H p = none → sp (ws ++ [V.ref p]) (upd H p (.tup rest)) Q E) : FnR P w K mg base CX0 (k + 1) f sp' := by
  obtain ⟨oc, od, dV, kV, doc, pm, an, cdv, ct, osl, rfl, lk, hcd, hD, _⟩ := F.ex
  rcases hD with ⟨_, rfl⟩ | ⟨e, _⟩
  · have R := StX.fn_star (P := P) (w := w) (mg := mg) (base := base) (sp := sp) lk hcd S StX.cxUp_none (hb kV doc pm an cdv ct) (fun A outer s H vs Q E hr h => let ⟨t, h1, h2⟩ := hbody cdv A outer s H vs Q E hr h; ⟨t, h1.nox, h2⟩)
    exact R.imp himp
  · exact absurd rfl e
theorem mt_of (c : Cls K C) (hm : Meth K C x f) (R : FnR P w K mg base CX0 k f sp) : Mt P w K mg base k C x sp := ⟨f, c, hm, R⟩
theorem cr_of {y : Str} (hy : mg y = some (.ref C)) (M : Mk K C f) (R : FnR P w K mg base CX0 k f sp) : Cr P w K mg base k y C sp := ⟨f, hy, M, R⟩
end
end Yk
namespace Yk
open PySem PySem.Spec PyProof.Rows L2
theorem upd_upd {H : Hp} {a : Addr} {x y : HO} : upd (upd H a x) a y = upd H a y := by
  funext b
  by_cases h : a = b
  · subst h; rw [upd_same, upd_same]
  · rw [upd_ne (Ne.symm h), upd_ne (Ne.symm h), upd_ne (Ne.symm h)]
theorem upd_self {H : Hp} {a : Addr} {x : HO} (h : H a = some x) : upd H a x = H := by
  funext b
  by_cases q : a = b
  · subst q; rw [upd_same, h]
  · rw [upd_ne (Ne.symm q)]
section
variable {nx : L2.St → Hp → Prop} {rt : VK} {bk ct : L2.St → Hp → Prop} {σ : L2.St} {H : Hp} {K : PySem.W.Frag} {Q : VK} {te ta tb tc tv : TE} {C a dx : Addr} {f m : Str} {fs : List (Str × V)} {v y : V} {r r' : R2} {sp : Sp} {t tk : TA}
theorem r_tAt (h : te σ H fun x H1 => ∃ a dx fs v, x = .ref a ∧ H1 a = some (.ins C dx fs) ∧ fs.lookup f = some v ∧ Q v H1) : tAt C f te σ H Q := h
theorem r_fld {R : V → Prop} (h1 : H a = some (.ins C dx fs)) (h2 : fs.lookup f = some v) (h : R v) : ∃ a' dx' fs' v', V.ref a = .ref a' ∧ H a' = some (.ins C dx' fs') ∧ fs'.lookup f = some v' ∧ R v' := ⟨a, dx, fs, v, rfl, h1, h2, h⟩
theorem r_sAt (h : tv σ H fun y H1 => te σ H1 fun x H2 => ∃ a dx fs, x = .ref a ∧ H2 a = some (.ins C dx fs) ∧ fs.length < 1000 ∧ nx σ (upd H2 a (.ins C dx (putF f y fs)))) : sAt C f te tv ⟨nx, rt, bk, ct⟩ σ H := h
theorem r_put {R : Hp → Prop} (h1 : H a = some (.ins C dx fs)) (h2 : fs.length < 1000) (h : R (upd H a (.ins C dx (putF f y fs)))) : ∃ a' dx' fs', V.ref a = .ref a' ∧ H a' = some (.ins C dx' fs') ∧ fs'.length < 1000 ∧ R (upd H a' (.ins C dx' (putF f y fs'))) := ⟨a, dx, fs, rfl, h1, h2, h⟩
theorem putF_lt {N : Nat} (h : fs.length < N) : (putF f v fs).length < N + 1 := Nat.lt_of_le_of_lt (length_putF f v fs) (by omega)
theorem r_putU {R : Hp → Prop} (h2 : fs.length < 1000) (h : R (upd H a (.ins C dx (putF f y fs)))) : ∃ a' dx' fs', V.ref a = .ref a' ∧ upd H a (.ins C dx fs) a' = some (.ins C dx' fs') ∧ fs'.length < 1000 ∧ R (upd (upd H a (.ins C dx fs)) a' (.ins C dx' (putF f y fs'))) :=
  ⟨a, dx, fs, rfl, upd_same, h2, by rw [upd_upd]; exact h⟩
theorem r_tMt (h : te σ H fun x H1 => ∃ a dx fs, x = .ref a ∧ H1 a = some (.ins C dx fs) ∧ fs.lookup m = none ∧ t σ H1 fun vs H2 => sp (x :: vs) H2 Q E0) : tMt C m sp te t σ H Q := h
theorem r_met {R : Prop} (h1 : H a = some (.ins C dx fs)) (h2 : fs.lookup m = none) (h : R) : ∃ a' dx' fs', V.ref a = .ref a' ∧ H a' = some (.ins C dx' fs') ∧ fs'.lookup m = none ∧ R := ⟨a, dx, fs, rfl, h1, h2, h⟩
theorem r_tCr (h : t σ H fun vs H1 => ∀ x dx, H1 x = Option.none → H1 dx = Option.none → dx ≠ x → sp (V.ref x :: vs) (upd (upd H1 dx (.own x)) x (.ins C dx [])) (fun v H2 => v = .non ∧ Q (.ref x) H2) E0) : tCr C sp t σ H Q := h
theorem r_tCrK {n k : Nat} {gV : List V → List V → List V} (h : t σ H fun vs H1 => tk σ H1 fun zs H2 => vs.length = n ∧ zs.length = k ∧ ∀ x dx, H2 x = none → H2 dx = none → dx ≠ x →
  sp (gV (.ref x :: vs) zs) (upd (upd H2 dx (.own x)) x (.ins C dx [])) (fun v H3 => v = .non ∧ Q (.ref x) H3) E0) : tCrK C n k sp gV t tk σ H Q := h
theorem r_chain (h : ta σ H fun x H1 => tb σ H1 fun y H2 => r x y H2 fun z H3 => ∃ k, z = .bl k ∧ (if k = true then tc σ H3 fun w' H4 => r' y w' H4 Q else Q (.bl false) H3)) : tChain r r' ta tb tc σ H Q := h
theorem r_in {neg : Bool} {p : Addr} {xs : List V} {x : V} (h1 : SqL K H p xs ∨ SqT K H p xs) (h2 : flatV x = true) (h3 : xs.all flatV = true) (h : Q (.bl (if neg then !inV x xs else inV x xs)) H) : rIn K neg x (.ref p) H Q := ⟨p, xs, rfl, h1, h2, h3, h⟩
end
/-! isinstance of the text's own classes; constants of a class -/
/-- the type of the class's objects is the class -/
structure Ty1 (K : PySem.W.Frag) (C : Addr) : Prop where
  ty : ∀ (H : Hp) (a dx : Addr) (fs : List (Str × V)), H a = some (.ins C dx fs) → TyX K H (.ref a) (.ref C)
section
variable {H : Hp} {K : PySem.W.Frag} {Q : VK} {C D D1 D2 a p dx : Addr} {fs : List (Str × V)} {b : Bool} {te : TE} {f : Str} {σ : L2.St}
theorem r_isiO (Y : Ty1 K C) (h : H a = some (.ins C dx fs)) (e : PySem.W.kitOne K (.ref C) (.ref D) = some b) (k : Q (.bl b) H) : rIsi K [.ref a, .ref D] H Q := ⟨.ref a, .ref D, .ref C, .ref D, b, rfl, .own D, Y.ty _ _ _ _ h, e, k⟩
theorem r_isiOT (Y : Ty1 K C) (hp : H p = some (.tup [.ref D1, .ref D2])) (h : H a = some (.ins C dx fs)) (e : PySem.W.kitAny K (.ref C) [.ref D1, .ref D2] = some b) (k : Q (.bl b) H) : rIsiT K [.ref a, .ref p] H Q :=
  ⟨.ref a, p, [.ref D1, .ref D2], .ref C, [.ref D1, .ref D2], b, rfl, hp, .cons (.own D1) (.cons (.own D2) .nil), Y.ty _ _ _ _ h, e, k⟩
/-- C.f, a constant of the class -/
theorem r_cval {mc : Value} {v : V} {u : Value} (r : ClX.CRead K C mc) (c : ClX.CVal K C mc f v u) (h : Q v H) : ClX.tCVal K (tC (.ref C)) f σ H Q := ⟨C, mc, v, u, rfl, r, c, h⟩
end
end Yk
namespace Yk
open PySem PySem.Spec PyProof.Rows L2
section
variable (P : Program) (w : World) (K : PySem.W.Frag) (mg : Str → Option Value) (base : Heap)
/-- a property -/
structure Pr (k : Nat) (C : Addr) (f : Str) (sp : Sp) : Prop where
  run : ∃ p g fd, Cls K C ∧ PropOf K C f p g ∧ FnOk P w K mg base CX0 k g fd ["self"] sp ∧ Binds K fd ["self"] []
end
section
variable {X : Cx} {k : Nat} {C : Addr} {f : Str} {sp : Sp} {e : Expr} {te : TE} {pos : Pos}
/-- e.f, f a property -/
def tPr (C : Addr) (sp : Sp) (te : TE) : TE := fun σ H Q => te σ H fun x H1 => ∃ a dx fs, x = .ref a ∧ H1 a = some (.ins C dx fs) ∧ sp [.ref a] H1 Q E0
theorem pe_pr (F : Pr X.prog X.w X.K X.mg X.base k C f sp) (hr : Room (k + 1) X.A) (he : PE X e te) (hab : attributeBase e f X.env (eval e X.env) = eval e X.env := by rfl) : PE X (.Attribute e f pos) (tPr C sp te) := by
  obtain ⟨p, g, fd, c, hp, G, hb⟩ := F.run
  exact pe_prop he c hp G hr hb .nil pass0 hab
theorem r_tPr {σ : L2.St} {H : Hp} {Q : VK} (h : te σ H fun x H1 => ∃ a dx fs, x = .ref a ∧ H1 a = some (.ins C dx fs) ∧ sp [.ref a] H1 Q E0) : tPr C sp te σ H Q := h
theorem r_prp {H : Hp} {a dx : Addr} {fs : List (Str × V)} {R : Prop} (h1 : H a = some (.ins C dx fs)) (h : R) : ∃ a' dx' fs', V.ref a = .ref a' ∧ H a' = some (.ins C dx' fs') ∧ R := ⟨a, dx, fs, rfl, h1, h⟩
end
end Yk

set_option maxHeartbeats 4000000
namespace Yk
open PySem PySem.Spec PyProof.Rows L2
/-! Dicts: the general part. What stands through a lock, walks over keys, values and items, comprehensions; tables. -/
/-! What stands through the lock of a dict. -/
theorem tupD {K : PySem.W.Frag} {H H1 : Hp} {a t : Addr} {kv : List (Key × V)} {xs : List V} (e : Ext [a] H H1) (ha : H a = some (.dK kv)) (h : SqT K H t xs) : SqT K H1 t xs := by
  have ne : ∀ o, H t = some o → (∀ kv, o ≠ .dK kv) → t ∉ [a] := fun o ho hn z => by
    rw [List.mem_singleton.mp z, ha] at ho
    exact hn _ (Option.some.inj ho).symm
  rcases h with (h | ⟨o, h⟩) | h
  · exact .inl (.inl (e _ _ h (ne _ h fun _ z => nomatch z)))
  · exact .inl (.inr ⟨o, e _ _ h (ne _ h fun _ z => nomatch z)⟩)
  · exact .inr h
theorem Am.d {K : PySem.W.Frag} {H H1 : Hp} {a : Addr} {kv : List (Key × V)} {v : V} {q : Rat} (e : Ext [a] H H1) (ha : H a = some (.dK kv)) (h : Am K H v q) : Am K H1 v q := by
  obtain ⟨t, rfl, h⟩ := h
  exact ⟨t, rfl, tupD e ha h⟩
theorem sqqD {K : PySem.W.Frag} {H H1 : Hp} {a t : Addr} {kv : List (Key × V)} {xs : List V} (e : Ext [a] H H1) (ha : H a = some (.dK kv)) (h : SqQ K H t xs) : SqQ K H1 t xs := by
  rcases h with h | h
  · refine .inl ?_
    have ne : ∀ o, H t = some o → (∀ kv, o ≠ .dK kv) → t ∉ [a] := fun o ho hn z => by
      rw [List.mem_singleton.mp z, ha] at ho
      exact hn _ (Option.some.inj ho).symm
    rcases h with (h | ⟨o, h⟩) | h
    · exact .inl (.inl (e _ _ h (ne _ h fun _ z => nomatch z)))
    · exact .inl (.inr ⟨o, e _ _ h (ne _ h fun _ z => nomatch z)⟩)
    · exact .inr h
  · exact .inr (tupD e ha h)
theorem Ams.d {K : PySem.W.Frag} {H H1 : Hp} {a : Addr} {kv : List (Key × V)} {vs : List V} {qs : List Rat} (e : Ext [a] H H1) (ha : H a = some (.dK kv)) (h : Ams K H vs qs) : Ams K H1 vs qs := ⟨h.1, fun i v q a b => (h.2 i v q a b).d e ha⟩
/-- no tuple stands at these -/
def NoTup (H : Hp) (S : List Addr) : Prop := ∀ b ∈ S, ∃ o, H b = some o ∧ (∀ xs, o ≠ .tup xs) ∧ ∀ u xs, o ≠ .frz u (.tup xs)
theorem tupF {S : List Addr} {K : PySem.W.Frag} {H H1 : Hp} {a : Addr} {xs : List V} (e : Ext S H H1) (h : SqT K H a xs) (hs : NoTup H S) : SqT K H1 a xs := by
  rcases h with (h | ⟨o, h⟩) | h
  · exact .inl (.inl (e a _ h fun z => by obtain ⟨o, q, n, _⟩ := hs a z; rw [h] at q; cases q; exact n _ rfl))
  · exact .inl (.inr ⟨o, e a _ h fun z => by obtain ⟨o, q, _, n⟩ := hs a z; rw [h] at q; cases q; exact n _ _ rfl⟩)
  · exact .inr h
theorem Am.f {S : List Addr} {K : PySem.W.Frag} {H H1 : Hp} {v : V} {q : Rat} (e : Ext S H H1) (hs : NoTup H S) (h : Am K H v q) : Am K H1 v q := by
  obtain ⟨a, rfl, h⟩ := h
  exact ⟨a, rfl, tupF e h hs⟩
/-- no list stands at these -/
def NoLst (H : Hp) (S : List Addr) : Prop := ∀ b ∈ S, ∃ o, H b = some o ∧ (∀ xs, o ≠ .lst xs) ∧ ∀ u xs, o ≠ .frz u (.lst xs)
theorem lstF {S : List Addr} {K : PySem.W.Frag} {H H1 : Hp} {a : Addr} {xs : List V} (e : Ext S H H1) (h : SqL K H a xs) (hs : NoLst H S) : SqL K H1 a xs := by
  rcases h with (h | ⟨o, h⟩) | h
  · exact .inl (.inl (e a _ h fun z => by obtain ⟨o, q, n, _⟩ := hs a z; rw [h] at q; cases q; exact n _ rfl))
  · exact .inl (.inr ⟨o, e a _ h fun z => by obtain ⟨o, q, _, n⟩ := hs a z; rw [h] at q; cases q; exact n _ _ rfl⟩)
  · exact .inr h
theorem BagAt.f {S : List Addr} {K : PySem.W.Frag} {H H1 : Hp} {b : Bag} (h : BagAt K H b) (e : Ext S H H1) (hs : NoLst H S) : BagAt K H1 b := by
  obtain ⟨l, h1, h2, h3, h4⟩ := h.ex
  exact ⟨l, e _ _ h1 fun z => (by obtain ⟨o, q, n, _⟩ := hs _ z; rw [h1] at q; cases q; exact n _ rfl), lstF e h2 hs, h3, h4⟩
theorem no_ins {H : Hp} {a C dx : Addr} {fs : List (Str × V)} (h : H a = some (.ins C dx fs)) : NoTup H [a] ∧ NoLst H [a] :=
  ⟨fun b hb => by rw [List.mem_singleton.mp hb]; exact ⟨_, h, (fun _ z => nomatch z), fun _ _ z => nomatch z⟩, fun b hb => by rw [List.mem_singleton.mp hb]; exact ⟨_, h, (fun _ z => nomatch z), fun _ _ z => nomatch z⟩⟩
theorem no_dk {H : Hp} {a : Addr} {l : List (Key × V)} (h : H a = some (.dK l)) : NoTup H [a] ∧ NoLst H [a] :=
  ⟨fun b hb => by rw [List.mem_singleton.mp hb]; exact ⟨_, h, (fun _ z => nomatch z), fun _ _ z => nomatch z⟩, fun b hb => by rw [List.mem_singleton.mp hb]; exact ⟨_, h, (fun _ z => nomatch z), fun _ _ z => nomatch z⟩⟩
theorem no_lst {H : Hp} {a : Addr} {l : List V} (h : H a = some (.lst l)) : NoTup H [a] := fun b hb => by rw [List.mem_singleton.mp hb]; exact ⟨_, h, (fun _ z => nomatch z), fun _ _ z => nomatch z⟩
theorem NoTup.app {H : Hp} {S T : List Addr} (h : NoTup H S) (g : NoTup H T) : NoTup H (S ++ T) := fun b hb => (List.mem_append.mp hb).elim (h b) (g b)
/-- a table by keys -/
def gv {κ α : Type} [DecidableEq κ] (c : List (κ × α)) (k : κ) : Option α := (c.find? fun p => decide (p.1 = k)).map (·.2)
def gp {κ α : Type} [DecidableEq κ] (c : List (κ × α)) (k : κ) (y : α) : List (κ × α) := if (c.any fun p => decide (p.1 = k)) = true then c.map (fun p => if p.1 = k then (p.1, y) else p) else c ++ [(k, y)]
/-- two tables with the same keys, their values alike -/
inductive TR {κ α : Type} (R : V → α → Prop) : List (κ × V) → List (κ × α) → Prop
  | nil : TR R [] []
  | cons {k : κ} {v : V} {y : α} {l : List (κ × V)} {c : List (κ × α)} : R v y → TR R l c → TR R ((k, v) :: l) ((k, y) :: c)
section
variable {κ α : Type} [DecidableEq κ] {R R' : V → α → Prop} {l : List (κ × V)} {c : List (κ × α)} {k : κ} {v : V} {y : α}
theorem TR.imp (f : ∀ v y, R v y → R' v y) (h : TR R l c) : TR R' l c := by
  induction h with
  | nil => exact .nil
  | cons a _ ih => exact .cons (f _ _ a) ih
theorem TR.len (h : TR R l c) : l.length = c.length := by
  induction h with
  | nil => rfl
  | cons a _ ih => simp [ih]
theorem TR.val (h : TR R l c) (k : κ) : (valV l k = none ∧ gv c k = none) ∨ ∃ v y, valV l k = some v ∧ gv c k = some y ∧ R v y := by
  induction h with
  | nil => exact .inl ⟨rfl, rfl⟩
  | @cons k' v y l c a _ ih =>
    by_cases e : k' = k
    · subst e
      exact .inr ⟨v, y, valV_pos rfl, by simp [gv], a⟩
    · have e1 : gv ((k', y) :: c) k = gv c k := by simp [gv, List.find?_cons, e]
      rw [valV_neg (p := (k', v)) e, e1]
      exact ih
theorem TR.any (h : TR R l c) (k : κ) : (l.any fun p => decide (p.1 = k)) = (c.any fun p => decide (p.1 = k)) := by
  induction h with
  | nil => rfl
  | cons a _ ih => rw [List.any_cons, List.any_cons, ih]
theorem TR.repl (h : TR R l c) (a : R v y) : TR R (l.map fun kv => if kv.1 = k then (kv.1, v) else kv) (c.map fun p => if p.1 = k then (p.1, y) else p) := by
  induction h with
  | nil => exact .nil
  | @cons k' v' y' l c b _ ih =>
    rw [List.map_cons, List.map_cons]
    by_cases e : k' = k
    · rw [if_pos e, if_pos e]; exact .cons a ih
    · rw [if_neg e, if_neg e]; exact .cons b ih
theorem TR.app {l2 : List (κ × V)} {c2 : List (κ × α)} (h : TR R l c) (g : TR R l2 c2) : TR R (l ++ l2) (c ++ c2) := by
  induction h with
  | nil => exact g
  | cons b _ ih => exact .cons b ih
theorem TR.put (h : TR R l c) (a : R v y) : TR R (putK l k v) (gp c k y) := by
  unfold putK gp
  rw [h.any k]
  split
  · exact h.repl a
  · exact h.app (.cons a .nil)
end
section
variable {K : PySem.W.Frag} {H : Hp} {Q : VK} {σ : L2.St} {wi : TI} {g : TG} {tt : TT} {tk tv td ty : TE} {vs : List Nat}
theorem r_dget (h : td σ H fun x H1 => ty σ H1 fun y H2 => ∃ a v, x = .ref a ∧ DGet H2 a y (some v) ∧ Q v H2) : tDGet td ty σ H Q := h
theorem r_dc (h : wi σ H fun J H1 => ∀ D, H1 D = none → ∃ W : Nat → Nat → Hp → Prop, (∃ m, W 0 m (upd H1 D (.dK []))) ∧ ∀ i m H, W i m H →
  (J.stop i H ∧ Q (.ref D) H) ∨ (J.go i H ∧ ∃ Nx : Hp → Prop, (∀ H', Nx H' → ∃ m', m' < m ∧ W (i + 1) m' H') ∧ ∀ x H', J.yld i H x H' → g x (wipe σ vs) H' fun σ2 H2 => wipe σ2 vs = wipe σ vs ∧ tt σ2 H2 fun b H3 =>
    if b = true then tk σ2 H3 fun y H4 => tv σ2 H4 fun z H5 => ∃ kvs k, y = kV k ∧ H5 D = some (.dK kvs) ∧ kvs.length < sizeLine ∧ Nx (upd H5 D (.dK (putK kvs k z))) else Nx H3)) : tDc wi g tt tk tv vs σ H Q := h
theorem r_dcL {a : Addr} {xs : List V} {D : Addr} {Qd : Hp → Prop} (Pv : Nat → Hp → Prop) (h0 : Pv 0 (upd H D (.dK []))) (hl : ∀ i H, i ≤ xs.length → Pv i H → SqL K H a xs)
    (hs : ∀ i x H, xs[i]? = some x → Pv i H → g x (wipe σ vs) H fun σ2 H2 => wipe σ2 vs = wipe σ vs ∧ tt σ2 H2 fun b H3 =>
      if b = true then tk σ2 H3 fun y H4 => tv σ2 H4 fun z H5 => ∃ kvs k, y = kV k ∧ H5 D = some (.dK kvs) ∧ kvs.length < sizeLine ∧ Pv (i + 1) (upd H5 D (.dK (putK kvs k z))) else Pv (i + 1) H3) (hd : ∀ H, Pv xs.length H → Qd H) :
    ∃ W : Nat → Nat → Hp → Prop, (∃ m, W 0 m (upd H D (.dK []))) ∧ ∀ i m H, W i m H →
      ((Itl K a).stop i H ∧ Qd H) ∨ ((Itl K a).go i H ∧ ∃ Nx : Hp → Prop, (∀ H', Nx H' → ∃ m', m' < m ∧ W (i + 1) m' H') ∧ ∀ x H', (Itl K a).yld i H x H' → g x (wipe σ vs) H' fun σ2 H2 => wipe σ2 vs = wipe σ vs ∧ tt σ2 H2 fun b H3 =>
        if b = true then tk σ2 H3 fun y H4 => tv σ2 H4 fun z H5 => ∃ kvs k, y = kV k ∧ H5 D = some (.dK kvs) ∧ kvs.length < sizeLine ∧ Nx (upd H5 D (.dK (putK kvs k z))) else Nx H3) := by
  refine ⟨fun i m H => m = xs.length - i ∧ i ≤ xs.length ∧ Pv i H, ⟨xs.length, by simp, Nat.zero_le _, h0⟩, ?_⟩
  rintro i m H ⟨rfl, hi, p⟩
  have q := hl i H hi p
  by_cases hlt : i < xs.length
  · refine .inr ⟨⟨xs, xs[i], q, by simp [hlt]⟩, Pv (i + 1), fun H' p' => ⟨xs.length - (i + 1), by omega, rfl, hlt, p'⟩, fun x H' y => ?_⟩
    obtain ⟨e, y⟩ := y
    subst e
    exact hs i x _ (y xs q) p
  · have e : i = xs.length := by omega
    subst e
    exact .inl ⟨⟨xs, q, Nat.le_refl _⟩, hd H p⟩
end
section
variable {nx : L2.St → Hp → Prop} {rt : VK} {bk ct : L2.St → Hp → Prop} {σ : L2.St} {H : Hp} {g : TG} {t : TS} {td ty : TE} {Q : VK}
theorem r_lock {d : Addr} {kv : List (Key × V)} (hd : H d = some (.dK kv)) (h : ∀ od, t ⟨fun σ' H' => H' d = some (.frz od (.dK kv)) ∧ nx σ' (upd H' d (.dK kv)), fun v H' => H' d = some (.frz od (.dK kv)) ∧ rt v (upd H' d (.dK kv)), fun σ' H' => H' d = some (.frz od (.dK kv)) ∧ bk σ' (upd H' d (.dK kv)), fun σ' H' => H' d = some (.frz od (.dK kv)) ∧ ct σ' (upd H' d (.dK kv))⟩ σ (upd H d (.frz od (.dK kv)))) :
    tLock t ⟨nx, rt, bk, ct⟩ σ H := ⟨d, _, hd, trivial, h⟩
theorem r_iVals {R : It → Hp → Prop} (h : td σ H fun x H1 => ∃ d o kvs, x = .ref d ∧ H1 d = some (.frz o (.dK kvs)) ∧ R (Itd d o kvs) H1) : iVals td σ H R := h
theorem r_dnotin (h : ty σ H fun y H1 => td σ H1 fun x H2 => ∃ a o, x = .ref a ∧ DGet H2 a y o ∧ Q (.bl (!o.isSome)) H2) : tDNotIn ty td σ H Q := h
theorem r_din (h : ty σ H fun y H1 => td σ H1 fun x H2 => ∃ a o, x = .ref a ∧ DGet H2 a y o ∧ Q (.bl o.isSome) H2) : tDIn ty td σ H Q := h
theorem r_loopD {d : Addr} {o : Obj} {kv : List (Key × V)} (Pv : Nat → L2.St → Hp → Prop) (h0 : Pv 0 σ H) (hl : ∀ i σ H, i ≤ kv.length → Pv i σ H → H d = some (.frz o (.dK kv)))
    (hs : ∀ (i : Nat) (k : Key) (x : V) (σ : L2.St) (H : Hp), kv[i]? = some (k, x) → Pv i σ H → g x σ H fun σ2 H2 => t ⟨Pv (i + 1), rt, nx, Pv (i + 1)⟩ σ2 H2) (hd : ∀ σ H, Pv kv.length σ H → nx σ H) :
    ∃ W : Nat → Nat → L2.St → Hp → Prop, (∃ m, W 0 m σ H) ∧ ∀ i m σ H, W i m σ H →
      ((Itd d o kv).stop i H ∧ nx σ H) ∨ ((Itd d o kv).go i H ∧ ∃ N : L2.St → Hp → Prop, (∀ σ' H', N σ' H' → ∃ m', m' < m ∧ W (i + 1) m' σ' H') ∧ ∀ x H', (Itd d o kv).yld i H x H' → g x σ H' fun σ2 H2 => t ⟨N, rt, nx, N⟩ σ2 H2) :=
  for_it (D := ⟨nx, rt, nx, nx⟩) walk_values Pv h0 hl (fun i x σ H H' _ p y => by
    obtain ⟨rfl, k, hk⟩ := y
    exact hs i k x σ _ hk p) hd
/-- a dict that was locked stands as before -/
theorem ext_unlock {d : Addr} {u : HO} {H1 : Hp} (hd : H d = some u) (e : Ext [d] H H1) : Ext [] H (upd H1 d u) := fun b o hb _ => by
  by_cases q : d = b
  · subst q
    rw [hd] at hb
    rw [upd_same]
    exact hb
  · rw [upd_ne (Ne.symm q)]
    exact e b o hb fun z => q (List.mem_singleton.mp z).symm
end
section
variable {K : PySem.W.Frag} {H : Hp} {Q : VK} {σ : L2.St} {td : TE} {te : TE} {g : TG} {tt : TT} {vs : List Nat}
theorem r_lockE {t : TE} {d : Addr} {kv : List (Key × V)} (hd : H d = some (.dK kv)) (h : ∀ od, t σ (upd H d (.frz od (.dK kv))) fun v H' => H' d = some (.frz od (.dK kv)) ∧ Q v (upd H' d (.dK kv))) : tLockE t σ H Q := ⟨d, _, hd, trivial, h⟩
theorem r_iItems {R : It → Hp → Prop} (h : td σ H fun x H1 => ∃ d o kvs, x = .ref d ∧ H1 d = some (.frz o (.dK kvs)) ∧ R (Iti d o kvs) H1) : iItems td σ H R := h
theorem r_lcI {d : Addr} {o : Obj} {kv : List (Key × V)} {D : Addr} {Qd : Hp → Prop} (Pv : Nat → Hp → Prop) (h0 : Pv 0 (upd H D (.lst []))) (hl : ∀ i H, i ≤ kv.length → Pv i H → H d = some (.frz o (.dK kv)))
    (hs : ∀ (i : Nat) (k : Key) (x : V) (T : Addr) (H : Hp), kv[i]? = some (k, x) → Pv i H → H T = none → g (.ref T) (wipe σ vs) (upd H T (.tup [kV k, x])) fun σ2 H2 => wipe σ2 vs = wipe σ vs ∧ tt σ2 H2 fun b H3 =>
      if b = true then te σ2 H3 fun y H4 => ∃ acc, H4 D = some (.lst acc) ∧ acc.length < sizeLine ∧ Pv (i + 1) (upd H4 D (.lst (acc ++ [y]))) else Pv (i + 1) H3) (hd : ∀ H, Pv kv.length H → Qd H) :
    ∃ W : Nat → Nat → Hp → Prop, (∃ m, W 0 m (upd H D (.lst []))) ∧ ∀ i m H, W i m H →
      ((Iti d o kv).stop i H ∧ Qd H) ∨ ((Iti d o kv).go i H ∧ ∃ Nx : Hp → Prop, (∀ H', Nx H' → ∃ m', m' < m ∧ W (i + 1) m' H') ∧ ∀ x H', (Iti d o kv).yld i H x H' → g x (wipe σ vs) H' fun σ2 H2 => wipe σ2 vs = wipe σ vs ∧ tt σ2 H2 fun b H3 =>
        if b = true then te σ2 H3 fun y H4 => ∃ acc, H4 D = some (.lst acc) ∧ acc.length < sizeLine ∧ Nx (upd H4 D (.lst (acc ++ [y]))) else Nx H3) :=
  lc_it walk_items Pv h0 hl (fun i x H H' hi p y => by
    obtain ⟨T, a, b, rfl, hT, rfl, ha, hb⟩ := y
    dsimp only at ha hb
    rw [List.getElem?_eq_getElem hi] at ha hb
    obtain rfl := Option.some.inj ha
    obtain rfl := Option.some.inj hb
    exact hs i kv[i].1 kv[i].2 T H (List.getElem?_eq_getElem hi) p hT) hd
end
section
variable {K : PySem.W.Frag} {nx : L2.St → Hp → Prop} {rt : VK} {σ : L2.St} {H : Hp} {g : TG} {tt : TT} {tk tv : TE} {t : TS} {vs : List Nat}
theorem r_dcK {d : Addr} {o : Obj} {kv : List (Key × V)} {D : Addr} {Qd : Hp → Prop} (Pv : Nat → Hp → Prop) (h0 : Pv 0 (upd H D (.dK []))) (hl : ∀ i H, i ≤ kv.length → Pv i H → H d = some (.frz o (.dK kv)))
    (hs : ∀ (i : Nat) (k : Key) (x : V) (H : Hp), kv[i]? = some (k, x) → Pv i H → g (kV k) (wipe σ vs) H fun σ2 H2 => wipe σ2 vs = wipe σ vs ∧ tt σ2 H2 fun b H3 =>
      if b = true then tk σ2 H3 fun y H4 => tv σ2 H4 fun z H5 => ∃ kvs k, y = kV k ∧ H5 D = some (.dK kvs) ∧ kvs.length < sizeLine ∧ Pv (i + 1) (upd H5 D (.dK (putK kvs k z))) else Pv (i + 1) H3) (hd : ∀ H, Pv kv.length H → Qd H) :
    ∃ W : Nat → Nat → Hp → Prop, (∃ m, W 0 m (upd H D (.dK []))) ∧ ∀ i m H, W i m H →
      ((Itk d o kv).stop i H ∧ Qd H) ∨ ((Itk d o kv).go i H ∧ ∃ Nx : Hp → Prop, (∀ H', Nx H' → ∃ m', m' < m ∧ W (i + 1) m' H') ∧ ∀ x H', (Itk d o kv).yld i H x H' → g x (wipe σ vs) H' fun σ2 H2 => wipe σ2 vs = wipe σ vs ∧ tt σ2 H2 fun b H3 =>
        if b = true then tk σ2 H3 fun y H4 => tv σ2 H4 fun z H5 => ∃ kvs k, y = kV k ∧ H5 D = some (.dK kvs) ∧ kvs.length < sizeLine ∧ Nx (upd H5 D (.dK (putK kvs k z))) else Nx H3) := by
  refine ⟨fun i m H => m = kv.length - i ∧ i ≤ kv.length ∧ Pv i H, ⟨kv.length, by simp, Nat.zero_le _, h0⟩, ?_⟩
  rintro i m H ⟨rfl, hi, p⟩
  have q := hl i H hi p
  by_cases hlt : i < kv.length
  · refine .inr ⟨⟨q, hlt⟩, Pv (i + 1), fun H' p' => ⟨kv.length - (i + 1), by omega, rfl, hlt, p'⟩, fun x H' y => ?_⟩
    obtain ⟨rfl, k, v, hk, rfl⟩ := y
    exact hs i k v _ hk p
  · have e : i = kv.length := by omega
    subst e
    exact .inl ⟨⟨q, Nat.le_refl _⟩, hd H p⟩
theorem r_loopI {d : Addr} {o : Obj} {kv : List (Key × V)} (Pv : Nat → L2.St → Hp → Prop) (h0 : Pv 0 σ H) (hl : ∀ i σ H, i ≤ kv.length → Pv i σ H → H d = some (.frz o (.dK kv)))
    (hs : ∀ (i : Nat) (k : Key) (x : V) (T : Addr) (σ : L2.St) (H : Hp), kv[i]? = some (k, x) → Pv i σ H → H T = none → g (.ref T) σ (upd H T (.tup [kV k, x])) fun σ2 H2 => t ⟨Pv (i + 1), rt, nx, Pv (i + 1)⟩ σ2 H2) (hd : ∀ σ H, Pv kv.length σ H → nx σ H) :
    ∃ W : Nat → Nat → L2.St → Hp → Prop, (∃ m, W 0 m σ H) ∧ ∀ i m σ H, W i m σ H →
      ((Iti d o kv).stop i H ∧ nx σ H) ∨ ((Iti d o kv).go i H ∧ ∃ N : L2.St → Hp → Prop, (∀ σ' H', N σ' H' → ∃ m', m' < m ∧ W (i + 1) m' σ' H') ∧ ∀ x H', (Iti d o kv).yld i H x H' → g x σ H' fun σ2 H2 => t ⟨N, rt, nx, N⟩ σ2 H2) := by
  refine ⟨fun i m σ H => m = kv.length - i ∧ i ≤ kv.length ∧ Pv i σ H, ⟨kv.length, by simp, Nat.zero_le _, h0⟩, ?_⟩
  rintro i m σ H ⟨rfl, hi, p⟩
  have q := hl i σ H hi p
  by_cases hlt : i < kv.length
  · refine .inr ⟨⟨q, hlt⟩, Pv (i + 1), fun σ' H' p' => ⟨kv.length - (i + 1), by omega, rfl, hlt, p'⟩, fun x H' y => ?_⟩
    obtain ⟨T, k, v, hk, rfl, hT, rfl⟩ := y
    exact hs i k v T σ _ hk p hT
  · have e : i = kv.length := by omega
    subst e
    exact .inl ⟨⟨q, Nat.le_refl _⟩, hd σ H p⟩
end
section
variable {K : PySem.W.Frag} {nx : L2.St → Hp → Prop} {rt : VK} {bk ct : L2.St → Hp → Prop} {σ : L2.St} {H : Hp} {Q : VK} {td ty tv tx : TE}
theorem r_tget1 (h : td σ H fun x H1 => ∃ a, x = .ref a ∧ IsD H1 a ∧ ty σ H1 fun y H2 => ∃ o, DGet H2 a y o ∧ Q (o.getD .non) H2) : tDGet1 td ty σ H Q := h
theorem r_tget2 (h : td σ H fun x H1 => ∃ a, x = .ref a ∧ IsD H1 a ∧ ty σ H1 fun y H2 => tx σ H2 fun z H3 => ∃ o, DGet H3 a y o ∧ Q (o.getD z) H3) : tDGet2 td ty tx σ H Q := h
theorem r_prp2 {C a dx : Addr} {fs : List (Str × V)} {R : Addr → Prop} (h1 : H a = some (.ins C dx fs)) (h : R a) : ∃ a' dx' fs', V.ref a = .ref a' ∧ H a' = some (.ins C dx' fs') ∧ R a' := ⟨a, dx, fs, rfl, h1, h⟩
theorem r_dnT (h : ∀ p, H p = none → Q (.ref p) (upd H p (.dT []))) : tDNewT σ H Q := h
theorem r_dput (h : tv σ H fun v H1 => td σ H1 fun x H2 => ty σ H2 fun y H3 => ∃ a H4, x = .ref a ∧ DPut H3 a y v H4 ∧ nx σ H4) : sDPut td ty tv ⟨nx, rt, bk, ct⟩ σ H := h
end
theorem upd_over {H : Hp} {a d : Addr} {x y z : HO} (h : d ≠ a) : upd (upd (upd H a x) d y) a z = upd (upd H d y) a z := by
  funext b
  by_cases q : b = a
  · subst q; rw [upd_same, upd_same]
  · by_cases p : b = d
    · subst p; rw [upd_ne q, upd_same, upd_ne q, upd_same]
    · rw [upd_ne q, upd_ne p, upd_ne q, upd_ne q, upd_ne p]
section
variable {K : PySem.W.Frag} {nx : L2.St → Hp → Prop} {rt : VK} {bk ct : L2.St → Hp → Prop} {σ : L2.St} {H : Hp} {Q : VK} {g : TG} {tt : TT} {tk tv te td : TE} {vs : List Nat} {ta : TA}
theorem r_dcI {d : Addr} {o : Obj} {kv : List (Key × V)} {D : Addr} {Qd : Hp → Prop} (Pv : Nat → Hp → Prop) (h0 : Pv 0 (upd H D (.dK []))) (hl : ∀ i H, i ≤ kv.length → Pv i H → H d = some (.frz o (.dK kv)))
    (hs : ∀ (i : Nat) (k : Key) (x : V) (T : Addr) (H : Hp), kv[i]? = some (k, x) → Pv i H → H T = none → g (.ref T) (wipe σ vs) (upd H T (.tup [kV k, x])) fun σ2 H2 => wipe σ2 vs = wipe σ vs ∧ tt σ2 H2 fun b H3 =>
      if b = true then tk σ2 H3 fun y H4 => tv σ2 H4 fun z H5 => ∃ kvs k, y = kV k ∧ H5 D = some (.dK kvs) ∧ kvs.length < sizeLine ∧ Pv (i + 1) (upd H5 D (.dK (putK kvs k z))) else Pv (i + 1) H3) (hd : ∀ H, Pv kv.length H → Qd H) :
    ∃ W : Nat → Nat → Hp → Prop, (∃ m, W 0 m (upd H D (.dK []))) ∧ ∀ i m H, W i m H →
      ((Iti d o kv).stop i H ∧ Qd H) ∨ ((Iti d o kv).go i H ∧ ∃ Nx : Hp → Prop, (∀ H', Nx H' → ∃ m', m' < m ∧ W (i + 1) m' H') ∧ ∀ x H', (Iti d o kv).yld i H x H' → g x (wipe σ vs) H' fun σ2 H2 => wipe σ2 vs = wipe σ vs ∧ tt σ2 H2 fun b H3 =>
        if b = true then tk σ2 H3 fun y H4 => tv σ2 H4 fun z H5 => ∃ kvs k, y = kV k ∧ H5 D = some (.dK kvs) ∧ kvs.length < sizeLine ∧ Nx (upd H5 D (.dK (putK kvs k z))) else Nx H3) := by
  refine ⟨fun i m H => m = kv.length - i ∧ i ≤ kv.length ∧ Pv i H, ⟨kv.length, by simp, Nat.zero_le _, h0⟩, ?_⟩
  rintro i m H ⟨rfl, hi, p⟩
  have q := hl i H hi p
  by_cases hlt : i < kv.length
  · refine .inr ⟨⟨q, hlt⟩, Pv (i + 1), fun H' p' => ⟨kv.length - (i + 1), by omega, rfl, hlt, p'⟩, fun x H' y => ?_⟩
    obtain ⟨T, k, v, hk, rfl, hT, rfl⟩ := y
    exact hs i k v T _ hk p hT
  · have e : i = kv.length := by omega
    subst e
    exact .inl ⟨⟨q, Nat.le_refl _⟩, hd H p⟩
theorem r_lcK {d : Addr} {o : Obj} {kv : List (Key × V)} {D : Addr} {Qd : Hp → Prop} (Pv : Nat → Hp → Prop) (h0 : Pv 0 (upd H D (.lst []))) (hl : ∀ i H, i ≤ kv.length → Pv i H → H d = some (.frz o (.dK kv)))
    (hs : ∀ (i : Nat) (k : Key) (x : V) (H : Hp), kv[i]? = some (k, x) → Pv i H → g (kV k) (wipe σ vs) H fun σ2 H2 => wipe σ2 vs = wipe σ vs ∧ tt σ2 H2 fun b H3 =>
      if b = true then te σ2 H3 fun y H4 => ∃ acc, H4 D = some (.lst acc) ∧ acc.length < sizeLine ∧ Pv (i + 1) (upd H4 D (.lst (acc ++ [y]))) else Pv (i + 1) H3) (hd : ∀ H, Pv kv.length H → Qd H) :
    ∃ W : Nat → Nat → Hp → Prop, (∃ m, W 0 m (upd H D (.lst []))) ∧ ∀ i m H, W i m H →
      ((Itk d o kv).stop i H ∧ Qd H) ∨ ((Itk d o kv).go i H ∧ ∃ Nx : Hp → Prop, (∀ H', Nx H' → ∃ m', m' < m ∧ W (i + 1) m' H') ∧ ∀ x H', (Itk d o kv).yld i H x H' → g x (wipe σ vs) H' fun σ2 H2 => wipe σ2 vs = wipe σ vs ∧ tt σ2 H2 fun b H3 =>
        if b = true then te σ2 H3 fun y H4 => ∃ acc, H4 D = some (.lst acc) ∧ acc.length < sizeLine ∧ Nx (upd H4 D (.lst (acc ++ [y]))) else Nx H3) := by
  refine ⟨fun i m H => m = kv.length - i ∧ i ≤ kv.length ∧ Pv i H, ⟨kv.length, by simp, Nat.zero_le _, h0⟩, ?_⟩
  rintro i m H ⟨rfl, hi, p⟩
  have q := hl i H hi p
  by_cases hlt : i < kv.length
  · refine .inr ⟨⟨q, hlt⟩, Pv (i + 1), fun H' p' => ⟨kv.length - (i + 1), by omega, rfl, hlt, p'⟩, fun x H' y => ?_⟩
    obtain ⟨rfl, k, v, hk, rfl⟩ := y
    exact hs i k v _ hk p
  · have e : i = kv.length := by omega
    subst e
    exact .inl ⟨⟨q, Nat.le_refl _⟩, hd H p⟩
theorem r_iKeys {R : It → Hp → Prop} {d : Addr} {o : Obj} {kvs : List (Key × V)} (hd : H d = some (.frz o (.dK kvs))) (h : R (Itk d o kvs) H) : ∃ d' o', V.ref d = .ref d' ∧ ((∃ kvs, H d' = some (.frz o' (.dK kvs)) ∧ R (Itk d' o' kvs) H) ∨ ∃ kvs, H d' = some (.frz o' (.dT kvs)) ∧ R (Itkt d' o' kvs) H) := ⟨d, o, rfl, .inl ⟨kvs, hd, h⟩⟩
theorem r_iKeysT {R : It → Hp → Prop} (h : td σ H fun x H1 => ∃ d o, x = .ref d ∧ ((∃ kvs, H1 d = some (.frz o (.dK kvs)) ∧ R (Itk d o kvs) H1) ∨ ∃ kvs, H1 d = some (.frz o (.dT kvs)) ∧ R (Itkt d o kvs) H1)) : iKeys td σ H R := h
theorem r_disp1 (h : ∀ p, H p = none → tk σ (upd H p (.dK [])) fun x H1 => tv σ H1 fun y H2 => H2 p = some (.dK []) ∧ ∃ kvs : List (Key × V), [(x, y)] = kvs.map (fun kv => (kV kv.1, kv.2)) ∧ kvs.length ≤ 15 ∧ Q (.ref p) (upd H2 p (.dK (mergeK [] kvs)))) : tDisp [(tk, tv)] σ H Q := h
theorem r_dnK (h : ∀ p, H p = none → Q (.ref p) (upd H p (.dK []))) : tDNewK σ H Q := h
theorem r_par3 {i j l : Nat} (h : ta σ H fun vs H1 => ∃ u v w, vs = [u, v, w] ∧ nx (((σ.set i (some u)).set j (some v)).set l (some w)) H1) : tPar3 i j l ta ⟨nx, rt, bk, ct⟩ σ H := h
theorem r_par3e {u v w : V} {R : V → V → V → Prop} (h : R u v w) : ∃ u' v' w', [u, v, w] = [u', v', w'] ∧ R u' v' w' := ⟨u, v, w, rfl, h⟩
theorem r_dict {p : Addr} {kvs : List (Key × V)} (h1 : H p = some (.dK kvs)) (h : ∀ l, H l = none → Q (.ref l) (upd H l (.dK kvs))) : ∃ (a : Addr) (kvs : List (Key × V)), [V.ref p] = [V.ref a] ∧ Rd H a (.dK kvs) ∧ ∀ p, H p = none → Q (.ref p) (upd H p (.dK kvs)) := ⟨p, kvs, rfl, .inl h1, h⟩
end
end Yk

set_option maxHeartbeats 2000000
namespace Yk
open PySem PySem.Spec PyProof.Rows L2

/-! The law's own helpers from k28 on: the bag, the draws. -/
theorem seed_sq {seed : Int} (h0 : 0 ≤ seed) (h1 : seed < 2147483629) : CMulW seed seed := cmul (m := 32) (n := 32) (by omega) (by omega) (by decide) (by decide) (by decide)
section
variable {P : Program} {w : World} {K : PySem.W.Frag} {mg : Str → Option Value} {base : Heap} {f : Addr} {fd : FuncData}
abbrev s_law_bag : Stmt := top 33
theorem c_law_bag : FnScope ["_law_script", "_law_seed", "_law_cell"] ["_law_script"] (defScope s_law_bag) := ⟨rfl, rfl, rfl, by decide +kernel, rfl, by decide +kernel, by decide +kernel⟩
theorem f_law_bag (F : FunD K "_law_bag" "_law_bag" (defArgs s_law_bag) (defBody s_law_bag) (defScope s_law_bag) [] [] f fd) (hm : mg "_law_bag" = some (.ref f)) (T : Bt mg) : Fn P w K mg base 1 "_law_bag" (spBag K) := by
  refine fn_def F hm c_law_bag (fun vs H Q E h => ?_) (fun _ _ _ _ _ _ us hl => match us, hl with | [_], _ => rfl) (fun cdv A outer s H vs Q E hr h => ?_)
  · obtain ⟨a, ns, rfl, _⟩ := h
    rfl
  · obtain ⟨a, ns, rfl, ha, hns, k⟩ := h
    have nd := c_law_bag.nd
    refine ⟨_, (pss_cons (ps_set (i := 1) nd rfl (by first | exact Or.inl rfl | exact Or.inr rfl) pe_int)
      (pss_cons (ps_for PassesOwn.never rfl (pi_list (pe_slice sl_list (pv 0) po_none (po_some pe_int))) (pg_name (i := 2) nd rfl (by first | exact Or.inl rfl | exact Or.inr rfl))
        (pss_one (ps_set (i := 1) nd rfl (by first | exact Or.inl rfl | exact Or.inr rfl) (pe_op op_mod (pe_callTy call_int1 (by rfl) T.int (by decide +kernel) (pa_cons (pe_op op_add (pe_op op_add (pe_op op_mul (pv 1) pe_int) (pe_op op_mod (pe_callTy call_int1 (by rfl) T.int (by decide +kernel) (pa_cons (pv 2) pa_nil)) pe_int)) pe_int) pa_nil)) pe_int))))
      (pss_one (ps_ret (pe_lst (pa_cons (pe_callTy cr_list (by rfl) T.list (by decide +kernel) (pa_cons (pe_slice sl_list (pv 0) po_none (po_some pe_int)) pa_nil)) (pa_cons pe_int (pa_cons pe_int (pa_cons (pv 1) (pa_cons pe_int pa_nil)))))))))), ?_⟩
    show (_ : TS) _ [some _, none, none] _
    try dsimp only [cxOf, Cx.nox]
    have hc : cutV (ns.map V.int) none (some 63) = ns.map V.int := cut_all (by rw [List.length_map]; exact hns)
    walk_at "go"
    refine r_for ?_
    refine r_iList ?_
    walk_at "go"
    refine r_slList ha fun p hp => ?_
    rw [hc]
    refine ⟨p, rfl, ⟨_, lstS⟩, r_loopL (xs := ns.map V.int) (fun i σ H1 => H1 = upd H p (.lst (ns.map V.int)) ∧ ∃ seed u, σ = [some (.ref a), some (.int seed), u] ∧ 0 ≤ seed ∧ seed < 2147483629) ⟨rfl, 13965, none, rfl, by decide, by decide⟩ (fun i σ H1 _ h => by rw [h.1]; exact lstS) ?_ ?_⟩
    · rintro i x σ H1 hx ⟨rfl, seed, u, rfl, h0, h1⟩
      obtain ⟨z, rfl⟩ : ∃ z, x = V.int z := by
        rw [List.getElem?_map] at hx
        cases e : ns[i]? with
        | none => rw [e] at hx; cases hx
        | some z => rw [e] at hx; exact ⟨z, (Option.some.inj hx).symm⟩
      walk_at "go"
      have hm := modI (seed * 69621 + z % 2147483629 + 17) (n := 2147483587) (by decide)
      exact ⟨rfl, _, _, rfl, hm.1, by omega⟩
    · rintro σ H1 ⟨rfl, seed, u, rfl, h0, h1⟩
      walk_at "go"
      refine r_slList (lstN ha hp) fun p2 hp2 => ?_
      rw [hc]
      walk_at "go"
      refine r_list (.inl lstS) fun l hl => ?_
      walk_at "go"
      have x3 := ((Ext.refl (S := []) (H := H)).new hp).new hp2 |>.new (o := .lst (ns.map V.int)) hl
      exact k ⟨_, l, ns⟩ _ (x3.free (by assumption)) (x3.new (by assumption)) (bag_ex (pos := 0) upd_same (lstN lstS (by assumption)) hns (Nat.zero_le _) (Int.le_refl _) h0 h1)
abbrev s_law_draw : Stmt := top 34
theorem c_law_draw : FnScope ["_law_bag_here", "_law_many", "_law_cell", "_law_digit", "_law_seed"] ["_law_bag_here", "_law_many"] (defScope s_law_draw) := ⟨rfl, rfl, rfl, by decide +kernel, rfl, by decide +kernel, by decide +kernel⟩
theorem f_law_draw (F : FunD K "_law_draw" "_law_draw" (defArgs s_law_draw) (defBody s_law_draw) (defScope s_law_draw) [] [] f fd) (hm : mg "_law_draw" = some (.ref f)) (T : Bt mg) : Fn P w K mg base 1 "_law_draw" (spDraw K) := by
  refine fn_def F hm c_law_draw (fun vs H Q E h => ?_) (fun _ _ _ _ _ _ us hl => match us, hl with | [_, _], _ => rfl) (fun cdv A outer s H vs Q E hr h => ?_)
  · obtain ⟨b, n, rfl, _⟩ := h
    rfl
  · obtain ⟨⟨b, it, ns⟩, n, rfl, hn, hn2, ⟨l, hb, hi, hns, pos, rest, seed, cnt, rfl, hp, hr0, hs0, hs1⟩, k⟩ := h
    have nd := c_law_draw.nd
    dsimp only at hb hi hns hp k
    refine ⟨_, (pss_cons (ps_asg (pe_op op_add (pe_ix ix_list (pv 0) pe_int (fun _ _ => rfl)) pe_int) (pg_sub (pv 0) pe_int set_list))
      (pss_mid (ps_if (PW.pt (pw_and (pt_cmpR op_eq (pe_ix ix_list (pv 0) pe_int (fun _ _ => rfl)) pe_int (nomark _)) (pw_and1 (pt_cmpR op_lt (pe_ix ix_list (pv 0) pe_int (fun _ _ => rfl)) (pe_callB cr_len (by rfl) T.len (by decide +kernel) (pa_cons (pe_ix ix_list (pv 0) pe_int (fun _ _ => rfl)) pa_nil)) (nomark _)))))
        (pss_cons (ps_set (i := 2) nd rfl (by first | exact Or.inl rfl | exact Or.inr rfl) (pe_ix ix_list (pe_ix ix_list (pv 0) pe_int (fun _ _ => rfl)) (pe_ix ix_list (pv 0) pe_int (fun _ _ => rfl)) (fun _ _ => rfl)))
        (pss_cons (ps_asg (pe_op op_add (pe_ix ix_list (pv 0) pe_int (fun _ _ => rfl)) pe_int) (pg_sub (pv 0) pe_int set_list))
        (pss_one (ps_if (pt_cmpR op_ge (pv 2) (pe_op op_pow pe_int pe_int) (nomark _))
          (pss_one (ps_asg (pv 2) (pg_sub (pv 0) pe_int set_list)))
          (pss_one (ps_asg (pe_op op_mod (pe_callTy call_int1 (by rfl) T.int (by decide +kernel) (pa_cons (pe_op op_add (pe_op op_add (pe_op op_mul (pe_ix ix_list (pv 0) pe_int (fun _ _ => rfl)) pe_int) (pe_op op_mul (pe_op op_mod (pe_callTy call_int1 (by rfl) T.int (by decide +kernel) (pa_cons (pv 2) pa_nil)) pe_int) pe_int)) pe_int) pa_nil)) pe_int) (pg_sub (pv 0) pe_int set_list)))))))
        pss_nil)
      (pss_cons (ps_if (pt_cmpR op_gt (pe_ix ix_list (pv 0) pe_int (fun _ _ => rfl)) pe_int (nomark _))
        (pss_cons (ps_set (i := 3) nd rfl (by first | exact Or.inl rfl | exact Or.inr rfl) (pe_op op_mod (pe_callTy call_int1 (by rfl) T.int (by decide +kernel) (pa_cons (pe_ix ix_list (pv 0) pe_int (fun _ _ => rfl)) pa_nil)) (pv 1)))
        (pss_cons (ps_asg (pe_op op_fdivW (pe_ix ix_list (pv 0) pe_int (fun _ _ => rfl)) (pv 1)) (pg_sub (pv 0) pe_int set_list))
        (pss_one (ps_ret (pv 3)))))
        pss_nil)
      (pss_cons (ps_set (i := 4) nd rfl (by first | exact Or.inl rfl | exact Or.inr rfl) (pe_ix ix_list (pv 0) pe_int (fun _ _ => rfl)))
      (pss_cons (ps_asg (pe_op op_mod (pe_callTy call_int1 (by rfl) T.int (by decide +kernel) (pa_cons (pe_op op_add (pe_op op_add (pe_op op_add (pe_op op_mul (pe_op op_mulW (pv 4) (pv 4)) pe_int) (pe_op op_mul (pv 4) pe_int)) (pe_op op_mul (pe_ix ix_list (pv 0) pe_int (fun _ _ => rfl)) pe_int)) pe_int) pa_nil)) pe_int) (pg_sub (pv 0) pe_int set_list))
      (pss_one (ps_ret (pe_op op_mod (pe_callTy call_int1 (by rfl) T.int (by decide +kernel) (pa_cons (pe_op op_add (pe_op op_fdivW (pe_ix ix_list (pv 0) pe_int (fun _ _ => rfl)) pe_int) (pe_op op_mul (pe_op op_mod (pe_callTy call_int1 (by rfl) T.int (by decide +kernel) (pa_cons (pe_ix ix_list (pv 0) pe_int (fun _ _ => rfl)) pa_nil)) pe_int) pe_int)) pa_nil)) (pv 1))))))))), ?_⟩
    show (_ : TS) _ [some _, some _, none, none, none] _
    try dsimp only [cxOf, Cx.nox]
    have bb : SqL K H b [.ref it, .int (pos : Int), .int rest, .int seed, .int cnt] := .inl (.inl hb)
    walk_at "go"
    refine r_setB (K := K) hb rfl _ rfl (fun H1 hb1 e1 c1 => ?_)
    have bb1 : SqL K H1 b [.ref it, .int (pos : Int), .int rest, .int seed, .int (cnt + 1)] := .inl (.inl hb1)
    have hi1 := c1 _ _ hi (ns_ne _ _ _)
    refine r_mid (fun σ H2 => ∃ (u : Option V) (pos' : Nat) (rest' seed' : Int), σ = [some (.ref b), some (.int n), u, none, none] ∧ H2 b = some (.lst [.ref it, .int (pos' : Int), .int rest', .int seed', .int (cnt + 1)]) ∧ SqL K H2 it (ns.map V.int) ∧ Ext [b] H H2 ∧ pos' ≤ ns.length ∧ 0 ≤ rest' ∧ 0 ≤ seed' ∧ seed' < 2147483629) ?_ ?_
    · walk_at "go"
      refine r_dec (fun hrest => ?_) (fun hrest => ?_)
      · walk_at "go"
        refine r_dec (fun hpos => ?_) (fun hpos => ?_)
        · have hpn : pos < ns.length := by rw [List.length_map] at hpos; omega
          walk_at "go"
          refine r_ixL hi1 (at_map hpn) ?_
          walk_at "go"
          refine r_setB (K := K) hb1 rfl _ rfl (fun H2 hb2 e2 c2 => ?_)
          have bb2 : SqL K H2 b [.ref it, .int ((pos : Int) + 1), .int rest, .int seed, .int (cnt + 1)] := .inl (.inl hb2)
          have hi2 := c2 _ _ hi1 (ns_ne _ _ _)
          walk_at "go"
          refine r_dec (fun hge => ?_) (fun hge => ?_)
          · walk_at "go"
            refine r_setB (K := K) hb2 rfl _ rfl (fun H3 hb3 e3 c3 => ?_)
            exact ⟨_, pos + 1, ns[pos], seed, rfl, by rw [Int.natCast_add]; exact hb3, c3 _ _ hi2 (ns_ne _ _ _), (e1.trans e2).trans e3, hpn, Int.le_trans (by decide) hge, hs0, hs1⟩
          · walk_at "go"
            refine r_setB (K := K) hb2 rfl _ rfl (fun H3 hb3 e3 c3 => ?_)
            have hm := modI (seed * 39373 + ns[pos] % 2147483549 * 24571 + 59) (n := 2147483579) (by decide)
            exact ⟨_, pos + 1, rest, _, rfl, by rw [Int.natCast_add]; exact hb3, c3 _ _ hi2 (ns_ne _ _ _), (e1.trans e2).trans e3, hpn, hr0, hm.1, by omega⟩
        · walk_at "go"
          exact ⟨_, pos, rest, seed, rfl, hb1, hi1, e1, hp, hr0, hs0, hs1⟩
      · walk_at "go"
        exact ⟨_, pos, rest, seed, rfl, hb1, hi1, e1, hp, hr0, hs0, hs1⟩
    · rintro σ H2 ⟨u, pos', rest', seed', rfl, hb2, hi2, e2, hp2, hr2, hs2, hs3⟩
      have bb2 : SqL K H2 b [.ref it, .int (pos' : Int), .int rest', .int seed', .int (cnt + 1)] := .inl (.inl hb2)
      walk_at "go"
      refine r_dec (fun hpos => ?_) (fun hpos => ?_)
      · have d1 : CDivW rest' n := wide_div hn (b := 400) (by omega) (by decide) (by decide)
        walk_at "go"
        refine r_setB (K := K) hb2 rfl _ rfl (fun H3 hb3 e3 c3 => ?_)
        walk_at "go"
        have hm := modI rest' hn
        exact k _ H3 hm.1 hm.2 (bag_ex hb3 (c3 _ _ hi2 (ns_ne _ _ _)) hns hp2 (Int.ediv_nonneg hr2 (by omega)) hs2 hs3) (e2.trans e3)
      · have c4 := seed_sq hs2 hs3
        walk_at "go"
        refine r_setB (K := K) hb2 rfl _ rfl (fun H3 hb3 e3 c3 => ?_)
        have hm := modI (seed' * seed' * 29 + seed' * 48673 + (cnt + 1) * 1500007 + 70001) (n := 2147483579) (by decide)
        have bb3 : SqL K H3 b [.ref it, .int (pos' : Int), .int rest', .int ((seed' * seed' * 29 + seed' * 48673 + (cnt + 1) * 1500007 + 70001) % 2147483579), .int (cnt + 1)] := .inl (.inl hb3)
        walk_at "go"
        have hm2 := modI ((seed' * seed' * 29 + seed' * 48673 + (cnt + 1) * 1500007 + 70001) % 2147483579 / 101 + (seed' * seed' * 29 + seed' * 48673 + (cnt + 1) * 1500007 + 70001) % 2147483579 % 6007 * 83) hn
        exact k _ H3 hm2.1 hm2.2 (bag_ex hb3 (c3 _ _ hi2 (ns_ne _ _ _)) hns hp2 hr2 hm.1 (by omega)) (e2.trans e3)
abbrev s_law_mixed : Stmt := top 36
theorem c_law_mixed : FnScope ["_law_bag_here", "_law_things", "_law_found", "_law_thing"] ["_law_bag_here", "_law_things"] (defScope s_law_mixed) := ⟨rfl, rfl, rfl, by decide +kernel, rfl, by decide +kernel, by decide +kernel⟩
theorem f_law_mixed (F : FunD K "_law_mixed" "_law_mixed" (defArgs s_law_mixed) (defBody s_law_mixed) (defScope s_law_mixed) [] [] f fd) (hm : mg "_law_mixed" = some (.ref f)) (T : Bt mg) (F_law_draw : Fn P w K mg base 1 "_law_draw" (spDraw K)) : Fn P w K mg base 2 "_law_mixed" (spMixed K) := by
  refine fn_def F hm c_law_mixed (fun vs H Q E h => ?_) (fun _ _ _ _ _ _ us hl => match us, hl with | [_, _], _ => rfl) (fun cdv A outer s H vs Q E hr h => ?_)
  · obtain ⟨b, l, xs, rfl, _⟩ := h
    rfl
  · obtain ⟨b, l, xs, rfl, hb, hl, hne, h4, k⟩ := h
    have nd := c_law_mixed.nd
    refine ⟨_, (pss_cons (ps_set (i := 2) nd rfl (by first | exact Or.inl rfl | exact Or.inr rfl) (pe_lst pa_nil))
      (pss_cons (ps_for PassesOwn.never rfl (pi_list (pv 1)) (pg_name (i := 3) nd rfl (by first | exact Or.inl rfl | exact Or.inr rfl))
        (pss_one (ps_expr (pe_bm PySem.F.plainAttrs_list PySem.F.slot_list_insert PySem.F.type_list_insert mt_insert (pv 2) (pa_cons (pe_fn F_law_draw (hr.mono (by decide)) (pa_cons (pv 0) (pa_cons (pe_op op_add (pe_callB cr_len (by rfl) T.len (by decide +kernel) (pa_cons (pv 2) pa_nil)) pe_int) pa_nil))) (pa_cons (pv 3) pa_nil))))))
      (pss_one (ps_ret (pv 2))))), ?_⟩
    show (_ : TS) _ [some _, some _, none, none] _
    try dsimp only [cxOf, Cx.nox]
    walk_at "go"
    rename_i p hp
    have nbp : p ≠ b.a := fun z => hb.ne hp z.symm
    refine r_for ?_
    refine r_iList ?_
    walk_at "go"
    refine ⟨l, rfl, ⟨_, lstN hl hp⟩, r_loopL (xs := xs) (fun i σ H1 => ∃ (ys : List V) (u : Option V), σ = [some (.ref b.a), some (.ref l), some (.ref p), u] ∧ H1 p = some (.lst ys) ∧ ys.Perm (xs.take i) ∧ BagAt K H1 b ∧ Ext [b.a] H H1) ⟨[], none, rfl, upd_same, by simp, hb.new hp, Ext.refl.new hp⟩ (fun i σ H1 _ h => ?_) ?_ ?_⟩
    · obtain ⟨ys, u, _, _, _, _, e1⟩ := h
      exact lstX e1 hl (by simpa using fun z => hne z.symm)
    · rintro i x σ H1 hx ⟨ys, u, rfl, hys, hperm, hb1, e1⟩
      have hi : i < xs.length := (List.getElem?_eq_some_iff.mp hx).1
      have hyl : ys.length = i := by rw [hperm.length_eq, List.length_take]; omega
      walk_at "go"
      refine ⟨.inl ⟨rfl, _, .inl (.inl hys)⟩, ?_⟩
      walk_at "go"
      refine r_len (.inl (.inl (.inl hys))) ?_
      walk_at "go"
      refine ⟨b, _, rfl, by omega, Int.lt_of_le_of_lt (by omega : (ys.length : Int) + 1 ≤ 4001) (by decide), hb1, fun z H2 z0 z1 hb2 e2 => ?_⟩
      walk_at "go"
      have hp2 : H2 p = some (.lst ys) := e2 _ _ hys (by simpa using nbp)
      refine ⟨p, ys, z, x, rfl, rfl, hp2, Nat.lt_of_le_of_lt (by omega : ys.length ≤ 4000) (by decide), z0, Int.lt_of_lt_of_le z1 (by omega), ?_⟩
      walk_at "go"
      refine ⟨_, _, rfl, upd_same, ?_, hb.own hp hb2, (e1.trans e2).own hp⟩
      rw [List.take_add_one, hx]
      show (ys.take z.toNat ++ [x] ++ ys.drop z.toNat).Perm (xs.take i ++ [x])
      rw [List.append_assoc]
      refine (List.perm_middle (a := x) (l₁ := ys.take z.toNat) (l₂ := ys.drop z.toNat)).trans ?_
      rw [List.take_append_drop]
      exact (List.perm_append_comm (l₁ := [x]) (l₂ := ys)).trans (hperm.append_right [x])
    · rintro σ H1 ⟨ys, u, rfl, hys, hperm, hb1, e1⟩
      rw [List.take_length] at hperm
      walk_at "go"
      exact k p ys H1 hperm hp hys hb1 e1
end
end Yk

set_option maxHeartbeats 2000000
namespace Yk
open PySem PySem.Spec PyProof.Rows L2

/-! The law's own arithmetic from k28 on. -/
def spLess (K : PySem.W.Frag) : Sp := fun vs H Q _ => ∃ v1 v2 p q, vs = [v1, v2] ∧ Am K H v1 p ∧ Am K H v2 q ∧ Sz 4000 p ∧ Sz 4000 q ∧ Q (.bl (decide (p < q))) H
def restQ (p q : Rat) : Rat := if p ≤ q then 0 else p - q
section
variable {P : Program} {w : World} {K : PySem.W.Frag} {mg : Str → Option Value} {base : Heap} {f : Addr} {fd : FuncData}
abbrev s_law_amount : Stmt := top 37
theorem c_law_amount : FnScope ["_law_top", "_law_bottom", "_law_one", "_law_two"] ["_law_top", "_law_bottom"] (defScope s_law_amount) := ⟨rfl, rfl, rfl, by decide +kernel, rfl, by decide +kernel, by decide +kernel⟩
theorem f_law_amount (F : FunD K "_law_amount" "_law_amount" (defArgs s_law_amount) (defBody s_law_amount) (defScope s_law_amount) [] [] f fd) (hm : mg "_law_amount" = some (.ref f)) (T : Bt mg) : Fn P w K mg base 1 "_law_amount" (spPair K) := by
  refine fn_def F hm c_law_amount (fun vs H Q E h => ?_) (fun _ _ _ _ _ _ us hl => match us, hl with | [_, _], _ => rfl) (fun cdv A outer s H vs Q E hr h => ?_)
  · obtain ⟨a, b, rfl, _⟩ := h
    rfl
  · obtain ⟨a, b, rfl, hb, la, lb, k⟩ := h
    have nd := c_law_amount.nd
    refine ⟨_, (pss_cons (ps_par (i := 2) (j := 3) (by rfl) nd rfl rfl (by decide) rfl rfl (pa_cons (pv 0) (pa_cons (pv 1) pa_nil)) (by rfl))
      (pss_cons (ps_while PassesOwn.never (pt_cmpR op_gt (pv 3) pe_int (nomark _))
        (pss_one (ps_par (i := 2) (j := 3) (by rfl) nd rfl rfl (by decide) rfl rfl (pa_cons (pv 3) (pa_cons (pe_op op_mod (pe_callTy call_int1 (by rfl) T.int (by decide +kernel) (pa_cons (pv 2) pa_nil)) (pv 3)) pa_nil)) (by rfl))))
      (pss_one (ps_ret (pe_tup (pa_cons (pe_op op_fdivW (pv 0) (pv 2)) (pa_cons (pe_op op_fdivW (pv 1) (pv 2)) pa_nil))))))), ?_⟩
    show (_ : TS) _ [some _, some _, none, none] _
    try dsimp only [cxOf, Cx.nox]
    walk_at "go"
    refine r_while (fun m σ H1 => H1 = H ∧ ∃ x y : Nat, y = m ∧ 0 < x + y ∧ σ = [some (.int (a : Int)), some (.int (b : Int)), some (.int (x : Int)), some (.int (y : Int))] ∧ Nat.gcd x y = Nat.gcd a b) b ⟨rfl, a, b, rfl, by omega, rfl, rfl⟩ ?_
    rintro m σ H1 ⟨rfl, x, y, rfl, hxy, rfl, hg⟩
    walk_at "go"
    refine r_dec (fun hy => ?_) (fun hy => ?_)
    · have hy' : 0 < y := by omega
      refine ⟨fun σ H' => H' = H1 ∧ σ = [some (.int (a : Int)), some (.int (b : Int)), some (.int (y : Int)), some (.int ((x % y : Nat) : Int))], ?_, ?_⟩
      · rintro σ' H' ⟨rfl, rfl⟩
        refine ⟨x % y, Nat.mod_lt _ hy', rfl, y, x % y, rfl, by omega, rfl, ?_⟩
        rw [← hg, Nat.gcd_comm x y, Nat.gcd_rec y x, Nat.gcd_comm]
      · walk_at "go"
        exact ⟨rfl, rfl⟩
    · have y0 : y = 0 := by omega
      subst y0
      rw [Nat.gcd_zero_right] at hg
      have hx : 0 < x := by omega
      have lx : x < 2 ^ 8900 := Nat.lt_of_le_of_lt (by rw [hg]; exact Nat.gcd_le_right _ hb) lb
      have d1 : ∀ i : Int, CDivW i (x : Int) := fun i => cdiv hx lx (by decide) (by decide)
      walk_at "go"
      refine r_I (d1 _) ?_
      walk_at "go"
      refine r_I (d1 _) ?_
      walk_at "go"
      refine k _ _ (Ext.refl.new (by assumption)) ⟨_, rfl, ?_⟩
      obtain ⟨x1, x2⟩ := mk_parts a b hb
      rw [x1, x2, ← hg]
      simp only [Int.natCast_ediv]
      exact tupS
abbrev s_law_sum : Stmt := top 38
theorem c_law_sum : FnScope ["_law_one", "_law_two"] ["_law_one", "_law_two"] (defScope s_law_sum) := ⟨rfl, rfl, rfl, by decide +kernel, rfl, by decide +kernel, by decide +kernel⟩
theorem f_law_sum (F : FunD K "_law_sum" "_law_sum" (defArgs s_law_sum) (defBody s_law_sum) (defScope s_law_sum) [] [] f fd) (hm : mg "_law_sum" = some (.ref f)) (F_law_amount : Fn P w K mg base 1 "_law_amount" (spPair K)) : Fn P w K mg base 2 "_law_sum" (sp2 (fun _ _ => True) (· + ·) K) := by
  refine fn_def F hm c_law_sum (fun vs H Q E h => ?_) (fun _ _ _ _ _ _ us hl => match us, hl with | [_, _], _ => rfl) (fun cdv A outer s H vs Q E hr h => ?_)
  · obtain ⟨v1, v2, p, q, rfl, _⟩ := h
    rfl
  · obtain ⟨v1, v2, p, q, rfl, ⟨a1, rfl, h1⟩, ⟨a2, rfl, h2⟩, z1, z2, p0, q0, _, k⟩ := h
    have nd := c_law_sum.nd
    refine ⟨_, (pss_one (ps_ret (pe_fn F_law_amount (hr.mono (by decide)) (pa_cons (pe_op op_add (pe_op op_mulW (pe_ix ix_tup (pv 0) pe_int (fun _ _ => rfl)) (pe_ix ix_tup (pv 1) pe_int (fun _ _ => rfl))) (pe_op op_mulW (pe_ix ix_tup (pv 1) pe_int (fun _ _ => rfl)) (pe_ix ix_tup (pv 0) pe_int (fun _ _ => rfl)))) (pa_cons (pe_op op_mulW (pe_ix ix_tup (pv 0) pe_int (fun _ _ => rfl)) (pe_ix ix_tup (pv 1) pe_int (fun _ _ => rfl))) pa_nil))))), ?_⟩
    show (_ : TS) _ [some _, some _] _
    try dsimp only [cxOf, Cx.nox]
    have m1 : CMulW p.num (q.den : Int) := cmul z1.1 (szd z2) (by decide) (by decide) (by decide)
    have m2 : CMulW q.num (p.den : Int) := cmul z2.1 (szd z1) (by decide) (by decide) (by decide)
    have m3 : CMulW (p.den : Int) (q.den : Int) := cmul (szd z1) (szd z2) (by decide) (by decide) (by decide)
    walk_at "go"
    have e1 := mulz z1.1 (szd z2)
    have e2 := mulz z2.1 (szd z1)
    have e3 : p.den * q.den < 2 ^ (4000 + 4000) := by rw [Nat.pow_add]; exact Nat.mul_lt_mul'' z1.2 z2.2
    have e4 : (2 : Nat) ^ (4000 + 4000) + 2 ^ (4000 + 4000) ≤ 2 ^ 8900 := by decide +kernel
    have n1 : 0 ≤ p.num * (q.den : Int) := Int.mul_nonneg (num_nn p0) (by omega)
    have n2 : 0 ≤ q.num * (p.den : Int) := Int.mul_nonneg (num_nn q0) (by omega)
    refine ⟨(p.num * (q.den : Int) + q.num * (p.den : Int)).toNat, p.den * q.den, ?_, Nat.mul_pos p.den_pos q.den_pos, ?_, by omega, fun v H' e a => k v H' e ?_⟩
    · rw [Int.toNat_of_nonneg (by omega), Int.natCast_mul]
    · generalize (2 : Nat) ^ (4000 + 4000) = B at *
      generalize (2 : Nat) ^ 8900 = C at *
      omega
    · rw [Int.toNat_of_nonneg (by omega), mk_add] at a
      exact a
theorem mk_subH (p q : Rat) : mkRat (p.num * q.den - q.num * p.den) (p.den * q.den) = p - q := by rw [Rat.sub_eq_add_neg, Rat.add_def, Rat.normalize_eq_mkRat, Rat.neg_num, Rat.neg_den, Int.neg_mul, Int.sub_eq_add_neg]
theorem le_cross (p q : Rat) : p ≤ q ↔ p.num * (q.den : Int) - q.num * (p.den : Int) ≤ 0 := by
  have h1 := Rat.lt_iff q p
  have h2 : p ≤ q ↔ ¬ q < p := Rat.not_lt.symm
  rw [h2, h1]
  omega
theorem mk_rest (p q : Rat) : mkRat ((max (p.num * (q.den : Int) - q.num * (p.den : Int)) 0).toNat : Int) (p.den * q.den) = restQ p q := by
  unfold restQ
  by_cases h : p ≤ q
  · have h2 := (le_cross p q).mp h
    rw [if_pos h, Int.max_eq_right h2]
    simp
  · have h2 : ¬ (p.num * (q.den : Int) - q.num * (p.den : Int) ≤ 0) := fun z => h ((le_cross p q).mpr z)
    rw [if_neg h, Int.max_eq_left (by omega), Int.toNat_of_nonneg (by omega), mk_subH]
theorem max_if (a : Int) : (if 0 > a then 0 else a) = max a 0 := by omega
theorem rest_nn (p q : Rat) : 0 ≤ restQ p q := by
  unfold restQ
  split
  · exact Rat.le_refl
  · grind
abbrev s_law_rest : Stmt := top 39
theorem c_law_rest : FnScope ["_law_one", "_law_two"] ["_law_one", "_law_two"] (defScope s_law_rest) := ⟨rfl, rfl, rfl, by decide +kernel, rfl, by decide +kernel, by decide +kernel⟩
theorem f_law_rest (F : FunD K "_law_rest" "_law_rest" (defArgs s_law_rest) (defBody s_law_rest) (defScope s_law_rest) [] [] f fd) (hm : mg "_law_rest" = some (.ref f)) (T : Bt mg) (F_law_amount : Fn P w K mg base 1 "_law_amount" (spPair K)) : Fn P w K mg base 2 "_law_rest" (sp2 (fun _ _ => True) restQ K) := by
  refine fn_def F hm c_law_rest (fun vs H Q E h => ?_) (fun _ _ _ _ _ _ us hl => match us, hl with | [_, _], _ => rfl) (fun cdv A outer s H vs Q E hr h => ?_)
  · obtain ⟨v1, v2, p, q, rfl, _⟩ := h
    rfl
  · obtain ⟨v1, v2, p, q, rfl, ⟨a1, rfl, h1⟩, ⟨a2, rfl, h2⟩, z1, z2, p0, q0, _, k⟩ := h
    have nd := c_law_rest.nd
    refine ⟨_, (pss_one (ps_ret (pe_fn F_law_amount (hr.mono (by decide)) (pa_cons (pe_callB (call_max2 rfl) (by rfl) T.max (by decide +kernel) (pa_cons (pe_op op_sub (pe_op op_mulW (pe_ix ix_tup (pv 0) pe_int (fun _ _ => rfl)) (pe_ix ix_tup (pv 1) pe_int (fun _ _ => rfl))) (pe_op op_mulW (pe_ix ix_tup (pv 1) pe_int (fun _ _ => rfl)) (pe_ix ix_tup (pv 0) pe_int (fun _ _ => rfl)))) (pa_cons pe_int pa_nil))) (pa_cons (pe_op op_mulW (pe_ix ix_tup (pv 0) pe_int (fun _ _ => rfl)) (pe_ix ix_tup (pv 1) pe_int (fun _ _ => rfl))) pa_nil))))), ?_⟩
    show (_ : TS) _ [some _, some _] _
    try dsimp only [cxOf, Cx.nox]
    have m1 : CMulW p.num (q.den : Int) := cmul z1.1 (szd z2) (by decide) (by decide) (by decide)
    have m2 : CMulW q.num (p.den : Int) := cmul z2.1 (szd z1) (by decide) (by decide) (by decide)
    have m3 : CMulW (p.den : Int) (q.den : Int) := cmul (szd z1) (szd z2) (by decide) (by decide) (by decide)
    walk_at "go"
    have e1 := mulz z1.1 (szd z2)
    have e2 := mulz z2.1 (szd z1)
    have e3 : p.den * q.den < 2 ^ (4000 + 4000) := by rw [Nat.pow_add]; exact Nat.mul_lt_mul'' z1.2 z2.2
    have e4 : (2 : Nat) ^ (4000 + 4000) + 2 ^ (4000 + 4000) ≤ 2 ^ 8900 := by decide +kernel
    have n1 : 0 ≤ p.num * (q.den : Int) := Int.mul_nonneg (num_nn p0) (by omega)
    have n2 : 0 ≤ q.num * (p.den : Int) := Int.mul_nonneg (num_nn q0) (by omega)
    refine ⟨(max (p.num * (q.den : Int) - q.num * (p.den : Int)) 0).toNat, p.den * q.den, ?_, Nat.mul_pos p.den_pos q.den_pos, ?_, by omega, fun v H' e a => k v H' e ?_⟩
    · rw [Int.toNat_of_nonneg (by omega), Int.natCast_mul, max_if]
    · generalize (2 : Nat) ^ (4000 + 4000) = B at *
      generalize (2 : Nat) ^ 8900 = C at *
      omega
    · rw [mk_rest] at a
      exact a
abbrev s_law_less : Stmt := top 41
theorem c_law_less : FnScope ["_law_one", "_law_two"] ["_law_one", "_law_two"] (defScope s_law_less) := ⟨rfl, rfl, rfl, by decide +kernel, rfl, by decide +kernel, by decide +kernel⟩
theorem f_law_less (F : FunD K "_law_less" "_law_less" (defArgs s_law_less) (defBody s_law_less) (defScope s_law_less) [] [] f fd) (hm : mg "_law_less" = some (.ref f))  : Fn P w K mg base 1 "_law_less" (spLess K) := by
  refine fn_def F hm c_law_less (fun vs H Q E h => ?_) (fun _ _ _ _ _ _ us hl => match us, hl with | [_, _], _ => rfl) (fun cdv A outer s H vs Q E hr h => ?_)
  · obtain ⟨v1, v2, p, q, rfl, _⟩ := h
    rfl
  · obtain ⟨v1, v2, p, q, rfl, ⟨a1, rfl, h1⟩, ⟨a2, rfl, h2⟩, z1, z2, k⟩ := h
    have nd := c_law_less.nd
    refine ⟨_, (pss_one (ps_ret (pe_cmpR op_lt (pe_op op_mulW (pe_ix ix_tup (pv 0) pe_int (fun _ _ => rfl)) (pe_ix ix_tup (pv 1) pe_int (fun _ _ => rfl))) (pe_op op_mulW (pe_ix ix_tup (pv 1) pe_int (fun _ _ => rfl)) (pe_ix ix_tup (pv 0) pe_int (fun _ _ => rfl))) (nomark _)))), ?_⟩
    show (_ : TS) _ [some _, some _] _
    try dsimp only [cxOf, Cx.nox]
    have m1 : CMulW p.num (q.den : Int) := cmul z1.1 (szd z2) (by decide) (by decide) (by decide)
    have m2 : CMulW q.num (p.den : Int) := cmul z2.1 (szd z1) (by decide) (by decide) (by decide)
    walk_at "go"
    have e : decide (p.num * (q.den : Int) < q.num * (p.den : Int)) = decide (p < q) := decide_eq_decide.mpr (Rat.lt_iff p q).symm
    rw [e]
    exact k
abbrev s_law_min : Stmt := top 42
theorem c_law_min : FnScope ["_law_one", "_law_two"] ["_law_one", "_law_two"] (defScope s_law_min) := ⟨rfl, rfl, rfl, by decide +kernel, rfl, by decide +kernel, by decide +kernel⟩
theorem f_law_min (F : FunD K "_law_min" "_law_min" (defArgs s_law_min) (defBody s_law_min) (defScope s_law_min) [] [] f fd) (hm : mg "_law_min" = some (.ref f)) (F_law_less : Fn P w K mg base 1 "_law_less" (spLess K)) : Fn P w K mg base 2 "_law_min" (sp2 (fun _ _ => True) lmin K) := by
  refine fn_def F hm c_law_min (fun vs H Q E h => ?_) (fun _ _ _ _ _ _ us hl => match us, hl with | [_, _], _ => rfl) (fun cdv A outer s H vs Q E hr h => ?_)
  · obtain ⟨v1, v2, p, q, rfl, _⟩ := h
    rfl
  · obtain ⟨v1, v2, p, q, rfl, h1, h2, z1, z2, p0, q0, _, k⟩ := h
    have nd := c_law_min.nd
    refine ⟨_, (pss_one (ps_ret (pe_ifExp (pt_val (pe_fn F_law_less (hr.mono (by decide)) (pa_cons (pv 1) (pa_cons (pv 0) pa_nil)))) (pv 1) (pv 0)))), ?_⟩
    show (_ : TS) _ [some _, some _] _
    try dsimp only [cxOf, Cx.nox]
    walk_at "go"
    refine ⟨_, _, q, p, rfl, h2, h1, z2, z1, ?_⟩
    refine r_bl ?_
    refine r_dec (fun hl => ?_) (fun hl => ?_)
    · walk_at "go"
      refine k _ _ Ext.refl ?_
      unfold lmin
      rw [if_pos hl]
      exact h2
    · walk_at "go"
      refine k _ _ Ext.refl ?_
      unfold lmin
      rw [if_neg hl]
      exact h1
def gmax (p q : Rat) : Rat := if p < q then q else p
/-- an amount times a fraction of numbers -/
def spScaled (K : PySem.W.Frag) : Sp := fun vs H Q _ => ∃ (v : V) (q : Rat) (a b : Nat), vs = [v, .int (a : Int), .int (b : Int)] ∧ Am K H v q ∧ 0 ≤ q ∧ 0 < b ∧ Sz 4000 q ∧ a < 2 ^ 400 ∧ b < 2 ^ 400 ∧ RetAm K H Q (q * mkRat a b)
theorem mk_scaled (q : Rat) (a b : Nat) : mkRat (q.num * (a : Int)) (q.den * b) = q * mkRat a b := by
  conv => rhs; rw [← Rat.mkRat_self q]
  rw [Rat.mkRat_mul_mkRat]
abbrev s_law_scaled : Stmt := top 40
theorem c_law_scaled : FnScope ["_law_one", "_law_top", "_law_bottom"] ["_law_one", "_law_top", "_law_bottom"] (defScope s_law_scaled) := ⟨rfl, rfl, rfl, by decide +kernel, rfl, by decide +kernel, by decide +kernel⟩
theorem f_law_scaled (F : FunD K "_law_scaled" "_law_scaled" (defArgs s_law_scaled) (defBody s_law_scaled) (defScope s_law_scaled) [] [] f fd) (hm : mg "_law_scaled" = some (.ref f)) (F_law_amount : Fn P w K mg base 1 "_law_amount" (spPair K)) : Fn P w K mg base 2 "_law_scaled" (spScaled K) := by
  refine fn_def F hm c_law_scaled (fun vs H Q E h => ?_) (fun _ _ _ _ _ _ us hl => match us, hl with | [_, _, _], _ => rfl) (fun cdv A outer s H vs Q E hr h => ?_)
  · obtain ⟨v, q, a, b, rfl, _⟩ := h
    rfl
  · obtain ⟨v, q, a, b, rfl, ⟨a1, rfl, h1⟩, q0, hb, z1, ha2, hb2, k⟩ := h
    have nd := c_law_scaled.nd
    refine ⟨_, (pss_one (ps_ret (pe_fn F_law_amount (hr.mono (by decide)) (pa_cons (pe_op op_mulW (pe_ix ix_tup (pv 0) pe_int (fun _ _ => rfl)) (pv 1)) (pa_cons (pe_op op_mulW (pe_ix ix_tup (pv 0) pe_int (fun _ _ => rfl)) (pv 2)) pa_nil))))), ?_⟩
    show (_ : TS) _ [some _, some _, some _] _
    try dsimp only [cxOf, Cx.nox]
    have ha3 : (a : Int).natAbs < 2 ^ 400 := by rw [Int.natAbs_natCast]; exact ha2
    have hb3 : (b : Int).natAbs < 2 ^ 400 := by rw [Int.natAbs_natCast]; exact hb2
    have m1 : CMulW q.num (a : Int) := cmul z1.1 ha3 (by decide) (by decide) (by decide)
    have m2 : CMulW (q.den : Int) (b : Int) := cmul (szd z1) hb3 (by decide) (by decide) (by decide)
    walk_at "go"
    have e1 := mulz z1.1 ha3
    have e3 : q.den * b < 2 ^ (4000 + 400) := by rw [Nat.pow_add]; exact Nat.mul_lt_mul'' z1.2 hb2
    have e4 : (2 : Nat) ^ (4000 + 400) ≤ 2 ^ 8900 := by decide +kernel
    have n1 : 0 ≤ q.num * (a : Int) := Int.mul_nonneg (num_nn q0) (by omega)
    refine ⟨(q.num * (a : Int)).toNat, q.den * b, ?_, Nat.mul_pos q.den_pos hb, ?_, by omega, fun v H' e am => k v H' e ?_⟩
    · rw [Int.toNat_of_nonneg (by omega), Int.natCast_mul]
    · generalize (2 : Nat) ^ (4000 + 400) = B at *
      generalize (2 : Nat) ^ 8900 = C at *
      omega
    · rw [Int.toNat_of_nonneg (by omega), mk_scaled q a b] at am
      exact am
end
end Yk

set_option maxHeartbeats 4000000
namespace Yk
open PySem PySem.Spec PyProof.Rows L2

/-! _law_same: data that is alike. -/
section
variable {P : Program} {w : World} {K : PySem.W.Frag} {mg : Str → Option Value} {base : Heap} {f : Addr} {fd : FuncData}
abbrev s_law_same : Stmt := top 44
theorem c_law_same : FnScope ["_law_told", "_law_due", "_law_one", "_law_two"] ["_law_told", "_law_due"] (defScope s_law_same) := ⟨rfl, rfl, rfl, by decide +kernel, rfl, by decide +kernel, by decide +kernel⟩
theorem f_law_same (F : FunD K "_law_same" "_law_same" (defArgs s_law_same) (defBody s_law_same) (defScope s_law_same) [] [] f fd) (hm : mg "_law_same" = some (.ref f)) (T : Bt mg) (n : Nat) (F_law_same : Fn P w K mg base n "_law_same" (spLike K n)) : Fn P w K mg base (n+1) "_law_same" (spLike K (n + 1)) := by
  refine fn_def F hm c_law_same (fun vs H Q E h => ?_) (fun _ _ _ _ _ _ us hl => match us, hl with | [_, _], _ => rfl) (fun cdv A outer s H vs Q E hr h => ?_)
  · obtain ⟨v1, v2, rfl, _⟩ := h
    rfl
  · obtain ⟨v1, v2, rfl, he, k⟩ := h
    have nd := c_law_same.nd
    refine ⟨_, (pss_cons (ps_if (pt_val (pe_callB call_isiT (by rfl) T.isinstance (by decide +kernel) (pa_cons (pv 1) (pa_cons (pe_tup (pa_cons (pe_bltn (v := .ty "tuple") (by rfl) T.tuple (by decide +kernel) rfl) (pa_cons (pe_bltn (v := .ty "list") (by rfl) T.list (by decide +kernel) rfl) pa_nil))) pa_nil))))
        (pss_cons (ps_if (PW.pt (pw_or (pt_cmpR op_ne (pe_callB call_isi (by rfl) T.isinstance (by decide +kernel) (pa_cons (pv 0) (pa_cons (pe_bltn (v := .ty "tuple") (by rfl) T.tuple (by decide +kernel) rfl) pa_nil))) (pe_callB call_isi (by rfl) T.isinstance (by decide +kernel) (pa_cons (pv 1) (pa_cons (pe_bltn (v := .ty "tuple") (by rfl) T.tuple (by decide +kernel) rfl) pa_nil))) (nomark _)) (pw_or1 (pt_cmpR op_ne (pe_callB call_isi (by rfl) T.isinstance (by decide +kernel) (pa_cons (pv 0) (pa_cons (pe_bltn (v := .ty "list") (by rfl) T.list (by decide +kernel) rfl) pa_nil))) (pe_callB call_isi (by rfl) T.isinstance (by decide +kernel) (pa_cons (pv 1) (pa_cons (pe_bltn (v := .ty "list") (by rfl) T.list (by decide +kernel) rfl) pa_nil))) (nomark _)))))
          (pss_one (ps_ret pe_bl))
          pss_nil)
        (pss_one (ps_ret (pe_and (pe_cmpR op_eq (pe_callB cr_len (by rfl) T.len (by decide +kernel) (pa_cons (pv 0) pa_nil)) (pe_callB cr_len (by rfl) T.len (by decide +kernel) (pa_cons (pv 1) pa_nil)) (nomark _)) (pe_one (pe_callB (cr_all rfl) (by rfl) T.all (by decide +kernel) (pa_cons (pe_lc (own := [("_law_one", 2), ("_law_two", 3)])  rfl nd (RZ.pi_zipA (by rfl) T.zip (pa_cons (pv 0) (pa_cons (pv 1) pa_nil))) (blkOk_by (N := ["_law_told", "_law_due", "_law_one", "_law_two"]) (sc := defScope s_law_same) (by decide +kernel)) (fun _ _ _ _ _ => (pg_tup (n := 2) rfl (pgs_cons (pg_name (i := 2) nd rfl (Or.inl rfl)) (pgs_cons (pg_name (i := 3) nd rfl (Or.inl rfl)) pgs_nil)) : PG _ _ (gTup K 2 _))) (fun _ _ _ _ _ => pts_nil) (fun _ _ _ _ _ => (pe_fn F_law_same (hr.mono (Nat.le_refl _)) (pa_cons (pv 2) (pa_cons (pv 3) pa_nil))))) pa_nil)))))))
        pss_nil)
      (pss_cons (ps_if (PW.pt (pw_or (pt_cmpR op_isN (pv 1) pe_non (nomark _)) (pw_or1 (pt_cmpR op_isN (pv 0) pe_non (nomark _)))))
        (pss_one (ps_ret (pe_and (pe_cmpR op_isN (pv 1) pe_non (nomark _)) (pe_one (pe_cmpR op_isN (pv 0) pe_non (nomark _))))))
        pss_nil)
      (pss_cons (ps_if (PW.pt (pw_or (pt_cmpR op_ne (pe_callB call_isi (by rfl) T.isinstance (by decide +kernel) (pa_cons (pv 0) (pa_cons (pe_bltn (v := .ty "bool") (by rfl) T.bool (by decide +kernel) rfl) pa_nil))) (pe_callB call_isi (by rfl) T.isinstance (by decide +kernel) (pa_cons (pv 1) (pa_cons (pe_bltn (v := .ty "bool") (by rfl) T.bool (by decide +kernel) rfl) pa_nil))) (nomark _)) (pw_or1 (pt_cmpR op_ne (pe_callB call_isi (by rfl) T.isinstance (by decide +kernel) (pa_cons (pv 0) (pa_cons (pe_bltn (v := .ty "int") (by rfl) T.int (by decide +kernel) rfl) pa_nil))) (pe_callB call_isi (by rfl) T.isinstance (by decide +kernel) (pa_cons (pv 1) (pa_cons (pe_bltn (v := .ty "int") (by rfl) T.int (by decide +kernel) rfl) pa_nil))) (nomark _)))))
        (pss_one (ps_ret pe_bl))
        pss_nil)
      (pss_one (ps_ret (pe_and (pe_cmpR op_eq (pe_callB call_isi (by rfl) T.isinstance (by decide +kernel) (pa_cons (pv 0) (pa_cons (pe_bltn (v := .ty "str") (by rfl) T.str (by decide +kernel) rfl) pa_nil))) (pe_callB call_isi (by rfl) T.isinstance (by decide +kernel) (pa_cons (pv 1) (pa_cons (pe_bltn (v := .ty "str") (by rfl) T.str (by decide +kernel) rfl) pa_nil))) (nomark _)) (pe_one (pe_cmpR op_eq (pv 0) (pv 1) (nomark _))))))))), ?_⟩
    show (_ : TS) _ [some _, some _, none, none] _
    try dsimp only [cxOf, Cx.nox]
    cases he with
    | non n =>
      walk_at "run"
      exact k _ (by walk_at "ext")
    | bl n b =>
      walk_at "run"
      rw [decide_eq_true rfl]
      exact k _ (by walk_at "ext")
    | int n i =>
      walk_at "run"
      rw [decide_eq_true rfl]
      exact k _ (by walk_at "ext")
    | str n z =>
      walk_at "run"
      rw [decide_eq_true rfl]
      exact k _ (by walk_at "ext")
    | @tup n a b xs ys ha hb hl h4 h =>
      walk_at "run"
      refine r_true (len_is (by rw [hl])) ?_
      walk_at "run"
      refine ⟨a, b, xs, ys, rfl, .inr ⟨by walk_at "sq", by walk_at "sq", fun D hD => ?_⟩⟩
      generalize hH : upd H _ _ = H0 at *
      have e0 : Ext [] H H0 := by
        rw [← hH]
        walk_at "ext"
      refine r_lcZT hl (fun i H1 => Ext [] H0 H1 ∧ H1 D = some (.lst ((List.replicate i true).map V.bl))) ⟨Ext.refl.new hD, upd_same⟩ (fun i H1 p => ⟨tup0 (e0.trans p.1) ha, tup0 (e0.trans p.1) hb⟩) ?_ ?_
      · rintro i x y T H1 hx hy ⟨e1, hD1⟩ hT
        walk_at "run"
        refine ⟨rfl, ?_⟩
        walk_at "run"
        have hi : i < xs.length := (List.getElem?_eq_some_iff.mp hx).1
        have e2 : Ext [] H0 (upd H1 T (.tup [x, y])) := e1.new hT
        refine ⟨x, y, rfl, (h i x y hx hy).x0 (e0.trans e2), fun H2 e3 => ?_⟩
        have hD2 : H2 D = some (.lst ((List.replicate i true).map V.bl)) := e3 _ _ (by rw [upd_ne (ne_of_none hD1 hT)]; exact hD1) fun z => nomatch z
        refine ⟨_, hD2, ?_, (e2.trans e3).own hD, ?_⟩
        · rw [List.length_map, List.length_replicate]
          exact Nat.lt_of_le_of_lt (by omega : i ≤ 4000) (by decide)
        · rw [List.replicate_succ', List.map_append]
          exact upd_same
      · rintro H1 ⟨e1, hD1⟩
        walk_at "run"
        refine r_all (bs := List.replicate xs.length true) (.inl (.inl hD1)) ?_
        rw [show (List.replicate xs.length true).all id = true by simp]
        exact k _ (e0.trans e1)
    | @lst n a b xs ys ha hb hl h4 h =>
      walk_at "run"
      refine r_true (len_is (by rw [hl])) ?_
      walk_at "run"
      refine ⟨a, b, xs, ys, rfl, .inl ⟨by walk_at "sq", by walk_at "sq", fun D hD => ?_⟩⟩
      generalize hH : upd H _ _ = H0 at *
      have e0 : Ext [] H H0 := by
        rw [← hH]
        walk_at "ext"
      refine r_lcZL hl (fun i H1 => Ext [] H0 H1 ∧ H1 D = some (.lst ((List.replicate i true).map V.bl))) ⟨Ext.refl.new hD, upd_same⟩ (fun i H1 p => ⟨lst0 (e0.trans p.1) ha, lst0 (e0.trans p.1) hb⟩) ?_ ?_
      · rintro i x y T H1 hx hy ⟨e1, hD1⟩ hT
        walk_at "run"
        refine ⟨rfl, ?_⟩
        walk_at "run"
        have hi : i < xs.length := (List.getElem?_eq_some_iff.mp hx).1
        have e2 : Ext [] H0 (upd H1 T (.tup [x, y])) := e1.new hT
        refine ⟨x, y, rfl, (h i x y hx hy).x0 (e0.trans e2), fun H2 e3 => ?_⟩
        have hD2 : H2 D = some (.lst ((List.replicate i true).map V.bl)) := e3 _ _ (by rw [upd_ne (ne_of_none hD1 hT)]; exact hD1) fun z => nomatch z
        refine ⟨_, hD2, ?_, (e2.trans e3).own hD, ?_⟩
        · rw [List.length_map, List.length_replicate]
          exact Nat.lt_of_le_of_lt (by omega : i ≤ 4000) (by decide)
        · rw [List.replicate_succ', List.map_append]
          exact upd_same
      · rintro H1 ⟨e1, hD1⟩
        walk_at "run"
        refine r_all (bs := List.replicate xs.length true) (.inl (.inl hD1)) ?_
        rw [show (List.replicate xs.length true).all id = true by simp]
        exact k _ (e0.trans e1)
end
end Yk

set_option maxHeartbeats 4000000
namespace Yk
open PySem PySem.Spec PyProof.Rows L2

/-! Drawn amounts. -/
theorem of_intN {K : PySem.W.Frag} {H : Hp} {b : Bag} {l : Addr} {ns : List Int} {Q : VK} {E : XK} (hb : BagAt K H b) (hl : SqL K H l (ns.map V.int)) (hne : b.a ≠ l) (h0 : 0 < ns.length) (h4 : ns.length ≤ 4000) (k : ∀ x H', x ∈ ns → BagAt K H' b → Ext [b.a] H H' → Q (.int x) H') : spOf K [.ref b.a, .ref l] H Q E :=
  ⟨b, l, _, rfl, hb, hl, hne, by rw [List.length_map]; exact h0, by rw [List.length_map]; exact h4, fun i x H' hx hb' e => by
    rw [List.getElem?_map] at hx
    cases e2 : ns[i]? with
    | none => rw [e2] at hx; cases hx
    | some z => rw [e2] at hx; cases hx; exact k z H' (List.mem_of_getElem? e2) hb' e⟩
def spSome (K : PySem.W.Frag) : Sp := fun vs H Q _ => ∃ (b : Bag) (M : Nat), vs = [.ref b.a, .int (M : Int)] ∧ BagAt K H b ∧ M ≤ 2 ^ 60 ∧ ∀ v q H', Am K H' v q → In 30 M q → BagAt K H' b → Ext [b.a] H H' → Q v H'
section
variable {P : Program} {w : World} {K : PySem.W.Frag} {mg : Str → Option Value} {base : Heap} {f : Addr} {fd : FuncData}
abbrev s_law_some : Stmt := top 45
theorem c_law_some : FnScope ["_law_bag_here", "_law_most", "_law_bottom"] ["_law_bag_here", "_law_most"] (defScope s_law_some) := ⟨rfl, rfl, rfl, by decide +kernel, rfl, by decide +kernel, by decide +kernel⟩
theorem f_law_some (F : FunD K "_law_some" "_law_some" (defArgs s_law_some) (defBody s_law_some) (defScope s_law_some) [] [] f fd) (hm : mg "_law_some" = some (.ref f)) (T : Bt mg) (F_law_draw : Fn P w K mg base 1 "_law_draw" (spDraw K)) (F_law_of : Fn P w K mg base 2 "_law_of" (spOf K)) (F_law_amount : Fn P w K mg base 1 "_law_amount" (spPair K)) : Fn P w K mg base 3 "_law_some" (spSome K) := by
  refine fn_def F hm c_law_some (fun vs H Q E h => ?_) (fun _ _ _ _ _ _ us hl => match us, hl with | [_, _], _ => rfl) (fun cdv A outer s H vs Q E hr h => ?_)
  · obtain ⟨b, M, rfl, _⟩ := h
    rfl
  · obtain ⟨b, M, rfl, hb, hM, k⟩ := h
    have nd := c_law_some.nd
    refine ⟨_, (pss_cons (ps_set (i := 2) nd rfl (by first | exact Or.inl rfl | exact Or.inr rfl) (pe_fn F_law_of (hr.mono (by decide)) (pa_cons (pv 0) (pa_cons (pe_lst (pa_cons pe_int (pa_cons pe_int (pa_cons pe_int (pa_cons pe_int (pa_cons pe_int (pa_cons pe_int (pa_cons pe_int (pa_cons pe_int pa_nil))))))))) pa_nil))))
      (pss_one (ps_ret (pe_fn F_law_amount (hr.mono (by decide)) (pa_cons (pe_fn F_law_draw (hr.mono (by decide)) (pa_cons (pv 0) (pa_cons (pe_op op_add (pe_op op_mulW (pv 1) (pv 2)) pe_int) pa_nil))) (pa_cons (pv 2) pa_nil)))))), ?_⟩
    show (_ : TS) _ [some _, some _, none] _
    try dsimp only [cxOf, Cx.nox]
    walk_at "go"
    rename_i p hp
    refine of_intN (ns := [1, 1, 2, 1, 3, 1, 2, 5]) (hb.new hp) lstS (hb.ne hp) (Nat.zero_lt_succ _) (show 8 ≤ 4000 by decide) fun x H1 hx b1 n1 => ?_
    obtain ⟨d, rfl, d0, d5, dd⟩ : ∃ d : Nat, x = (d : Int) ∧ 0 < d ∧ d ≤ 5 ∧ d ∣ 30 := by
      simp only [List.mem_cons, List.not_mem_nil, or_false] at hx
      rcases hx with rfl | rfl | rfl | rfl | rfl | rfl | rfl | rfl
      · exact ⟨1, rfl, by decide, by decide, by decide⟩
      · exact ⟨1, rfl, by decide, by decide, by decide⟩
      · exact ⟨2, rfl, by decide, by decide, by decide⟩
      · exact ⟨1, rfl, by decide, by decide, by decide⟩
      · exact ⟨3, rfl, by decide, by decide, by decide⟩
      · exact ⟨1, rfl, by decide, by decide, by decide⟩
      · exact ⟨2, rfl, by decide, by decide, by decide⟩
      · exact ⟨5, rfl, by decide, by decide, by decide⟩
    have e1 : Ext [b.a] H H1 := Ext.trans (Ext.refl.new hp) n1
    have h60 : M ≤ 1152921504606846976 := hM
    have mw : CMulW (M : Int) (d : Int) := cmul (m := 61) (n := 4) (Nat.lt_of_le_of_lt (by omega : (M : Int).natAbs ≤ 1152921504606846976) (by decide)) (Nat.lt_of_le_of_lt (by omega : (d : Int).natAbs ≤ 5) (by decide)) (by decide) (by decide) (by decide)
    have hmd : M * d ≤ 1152921504606846976 * 5 := Nat.mul_le_mul h60 d5
    walk_at "go"
    have e2 : (M : Int) * (d : Int) = ((M * d : Nat) : Int) := by rw [Int.natCast_mul]
    rw [e2]
    refine k_draw b1 (by omega) (Int.lt_of_le_of_lt (by omega : ((M * d : Nat) : Int) + 1 ≤ 1152921504606846976 * 5 + 1) (by decide)) fun y H2 y0 y1 b2 n2 => ?_
    walk_at "go"
    refine ⟨y.toNat, d, by rw [Int.toNat_of_nonneg y0], d0, Nat.lt_of_le_of_lt (by omega : y.toNat ≤ 1152921504606846976 * 5) (Nat.lt_of_lt_of_le (by decide) (Nat.pow_le_pow_right (by decide) (by decide : 100 ≤ 8900))), Nat.lt_of_le_of_lt d5 (Nat.lt_of_lt_of_le (by decide) (Nat.pow_le_pow_right (by decide) (by decide : 100 ≤ 8900))), fun v H3 e3 a3 => ?_⟩
    exact k v _ H3 a3 (In.frac d0 dd (by omega)) (b2.x0 e3) (e1.trans (n2.trans (e3.mono fun _ z => nomatch z)))
/-- a part: so many of so many -/
structure PartQ (q r : Rat) : Prop where
  ex : ∃ a b : Nat, a ≤ b ∧ 0 < b ∧ b ∣ 30 ∧ r = q * mkRat (a : Int) b
theorem PartQ.le {q r : Rat} (h : PartQ q r) (h0 : 0 ≤ q) : 0 ≤ r ∧ r ≤ q := by
  obtain ⟨a, b, hab, hb, _, rfl⟩ := h.ex
  have i : In b 1 (mkRat (a : Int) b) := In.frac hb (Nat.dvd_refl b) (by omega)
  have h1 := i.le
  have h2 := Rat.mul_le_mul_of_nonneg_left h1 h0
  refine ⟨Rat.mul_nonneg h0 i.nn, ?_⟩
  have e : q * ((1 : Nat) : Rat) = q := by norm_cast; grind
  rw [e] at h2
  exact h2
theorem PartQ.in_ {D M : Nat} {q r : Rat} (h : PartQ q r) (i : In D M q) : In (D * 30) M r := by
  obtain ⟨a, b, hab, hb, hd, e⟩ := h.ex
  have h1 : In 30 1 (mkRat (a : Int) b) := In.frac hb hd (by omega)
  have h2 := i.mul h1
  rw [e]
  rw [Nat.mul_one] at h2
  exact h2
def spPart (K : PySem.W.Frag) : Sp := fun vs H Q _ => ∃ (b : Bag) (v : V) (q : Rat), vs = [.ref b.a, v] ∧ BagAt K H b ∧ Am K H v q ∧ 0 ≤ q ∧ Sz 4000 q ∧ ∀ u r H', Am K H' u r → PartQ q r → BagAt K H' b → Ext [b.a] H H' → Q u H'
theorem part_pairs : ∀ p ∈ ([(1, 1), (0, 1), (1, 2), (1, 1), (2, 3), (1, 5)] : List (Nat × Nat)), p.1 ≤ p.2 ∧ 0 < p.2 ∧ p.2 ∣ 30 ∧ p.2 ≤ 5 := by decide
/-- a row of pairs of numbers -/
def Prs2 (K : PySem.W.Frag) (H : Hp) (xs : List V) (ps : List (Nat × Nat)) : Prop := Rel (fun v p => ∃ a, v = V.ref a ∧ SqT K H a [.int (p.1 : Int), .int (p.2 : Int)]) xs ps
abbrev s_law_part : Stmt := top 46
theorem c_law_part : FnScope ["_law_bag_here", "_law_one", "_law_top", "_law_bottom"] ["_law_bag_here", "_law_one"] (defScope s_law_part) := ⟨rfl, rfl, rfl, by decide +kernel, rfl, by decide +kernel, by decide +kernel⟩
theorem f_law_part (F : FunD K "_law_part" "_law_part" (defArgs s_law_part) (defBody s_law_part) (defScope s_law_part) [] [] f fd) (hm : mg "_law_part" = some (.ref f)) (T : Bt mg) (F_law_of : Fn P w K mg base 2 "_law_of" (spOf K)) (F_law_scaled : Fn P w K mg base 2 "_law_scaled" (spScaled K)) : Fn P w K mg base 3 "_law_part" (spPart K) := by
  refine fn_def F hm c_law_part (fun vs H Q E h => ?_) (fun _ _ _ _ _ _ us hl => match us, hl with | [_, _], _ => rfl) (fun cdv A outer s H vs Q E hr h => ?_)
  · obtain ⟨b, v, q, rfl, _⟩ := h
    rfl
  · obtain ⟨b, v, q, rfl, hb, hv, q0, hz, k⟩ := h
    have nd := c_law_part.nd
    refine ⟨_, (pss_cons (ps_asg (pe_fn F_law_of (hr.mono (by decide)) (pa_cons (pv 0) (pa_cons (pe_lst (pa_cons (pe_tup (pa_cons pe_int (pa_cons pe_int pa_nil))) (pa_cons (pe_tup (pa_cons pe_int (pa_cons pe_int pa_nil))) (pa_cons (pe_tup (pa_cons pe_int (pa_cons pe_int pa_nil))) (pa_cons (pe_tup (pa_cons pe_int (pa_cons pe_int pa_nil))) (pa_cons (pe_tup (pa_cons pe_int (pa_cons pe_int pa_nil))) (pa_cons (pe_tup (pa_cons pe_int (pa_cons pe_int pa_nil))) pa_nil))))))) pa_nil))) (pg_tup rfl (pgs_cons (pg_name (i := 2) nd rfl (by first | exact Or.inl rfl | exact Or.inr rfl)) (pgs_cons (pg_name (i := 3) nd rfl (by first | exact Or.inl rfl | exact Or.inr rfl)) pgs_nil))))
      (pss_one (ps_ret (pe_fn F_law_scaled (hr.mono (by decide)) (pa_cons (pv 1) (pa_cons (pv 2) (pa_cons (pv 3) pa_nil))))))), ?_⟩
    show (_ : TS) _ [some _, some _, none, none] _
    try dsimp only [cxOf, Cx.nox]
    walk_at "go"
    rename_i p1 h1 p2 h2 p3 h3 p4 h4 p5 h5 p6 h6 p hp
    have hbn : b.a ≠ p := BagAt.ne (hb.x0 (by walk_at "ext")) hp
    generalize hG : upd _ p _ = H1
    have e1 : Ext [] H H1 := by rw [← hG]; walk_at "ext"
    have hl : SqL K H1 p [.ref p1, .ref p2, .ref p3, .ref p4, .ref p5, .ref p6] := by rw [← hG]; exact lstS
    have hr : Prs2 K H1 [.ref p1, .ref p2, .ref p3, .ref p4, .ref p5, .ref p6] [(1, 1), (0, 1), (1, 2), (1, 1), (2, 3), (1, 5)] := by
      rw [← hG]
      refine .cons ⟨_, rfl, by walk_at "sq"⟩ (.cons ⟨_, rfl, by walk_at "sq"⟩ (.cons ⟨_, rfl, by walk_at "sq"⟩ (.cons ⟨_, rfl, by walk_at "sq"⟩ (.cons ⟨_, rfl, by walk_at "sq"⟩ (.cons ⟨_, rfl, by walk_at "sq"⟩ .nil)))))
    have b1 := hb.x0 e1
    refine ⟨b, p, _, rfl, b1, hl, hbn, Nat.zero_lt_succ _, show 6 ≤ 4000 by decide, fun i x H2 hx b2 n2 => ?_⟩
    obtain ⟨⟨s, t⟩, hst, a, rfl, ha⟩ := hr.at_ hx
    obtain ⟨hst1, ht0, htd, ht5⟩ := part_pairs _ (List.mem_of_getElem? hst)
    have ha2 : SqT K H2 a [.int (s : Int), .int (t : Int)] := tupX n2 ha fun x hx => by rw [List.mem_singleton.mp hx]; exact b1.lst
    walk_at "go"
    have lt4 : ∀ n : Nat, n ≤ 5 → n < 2 ^ 400 := fun n hn => Nat.lt_of_le_of_lt hn (Nat.lt_of_lt_of_le (by decide) (Nat.pow_le_pow_right (by decide) (by decide : 100 ≤ 400)))
    dsimp only at hst1 ht0 htd ht5
    refine ⟨v, q, s, t, rfl, (hv.x0 e1).b b1 n2, q0, ht0, hz, lt4 s (by omega), lt4 t ht5, fun u H3 e3 a3 => ?_⟩
    exact k u _ H3 a3 ⟨s, t, hst1, ht0, htd, rfl⟩ (b2.x0 e3) (e1.mono (fun _ z => nomatch z) |>.trans (n2.trans (e3.mono fun _ z => nomatch z)))
end
end Yk

set_option maxHeartbeats 4000000
namespace Yk
open PySem PySem.Spec PyProof.Rows L2

/-! Sums of rows by the law. -/
theorem szG {X M : Nat} {q : Rat} (h : In X M q) (h0 : 0 < X) (hX : X ≤ 2 ^ 400) (hM : M ≤ 2 ^ 400) : Sz 4000 q := (h.sz h0 hX hM).mono (by decide)
theorem sum_in {X M : Nat} : ∀ {l : List Rat}, (∀ q ∈ l, In X M q) → In X (l.length * M) (sumQ l)
  | [], _ => In.zero
  | q :: l, h => by
    rw [sumQ_cons, List.length_cons, Nat.add_mul, Nat.one_mul, Nat.add_comm]
    exact (h q List.mem_cons_self).add (sum_in fun x hx => h x (List.mem_cons_of_mem _ hx))
section
variable {P : Program} {w : World} {K : PySem.W.Frag} {mg : Str → Option Value} {base : Heap} {f : Addr} {fd : FuncData}
def spLAll (K : PySem.W.Frag) : Sp := fun vs H Q _ => ∃ t xs qs X M, vs = [V.ref t] ∧ SqL K H t xs ∧ Ams K H xs qs ∧ (∀ q ∈ qs, In X M q) ∧ 0 < X ∧ X ≤ 2 ^ 400 ∧ qs.length * M ≤ 2 ^ 400 ∧ RetAm K H Q (sumQ qs)
abbrev s_law_all : Stmt := top 43
theorem c_law_all : FnScope ["_law_row", "_law_found", "_law_one"] ["_law_row"] (defScope s_law_all) := ⟨rfl, rfl, rfl, by decide +kernel, rfl, by decide +kernel, by decide +kernel⟩
theorem f_law_all (F : FunD K "_law_all" "_law_all" (defArgs s_law_all) (defBody s_law_all) (defScope s_law_all) [] [] f fd) (hm : mg "_law_all" = some (.ref f)) (F_law_sum : Fn P w K mg base 2 "_law_sum" (sp2 (fun _ _ => True) (· + ·) K)) : Fn P w K mg base 3 "_law_all" (spLAll K) := by
  refine fn_def F hm c_law_all (fun vs H Q E h => ?_) (fun _ _ _ _ _ _ us hl => match us, hl with | [_], _ => rfl) (fun cdv A outer s H vs Q E hr h => ?_)
  · obtain ⟨t, xs, qs, X, M, rfl, _⟩ := h
    rfl
  · obtain ⟨t, xs, qs, X, M, rfl, ht, ha, hz, hX, hX4, hl, k⟩ := h
    have nd := c_law_all.nd
    refine ⟨_, (pss_cons (ps_set (i := 1) nd rfl (by first | exact Or.inl rfl | exact Or.inr rfl) (pe_tup (pa_cons pe_int (pa_cons pe_int pa_nil))))
      (pss_cons (ps_for PassesOwn.never rfl (pi_list (pv 0)) (pg_name (i := 2) nd rfl (by first | exact Or.inl rfl | exact Or.inr rfl))
        (pss_one (ps_set (i := 1) nd rfl (by first | exact Or.inl rfl | exact Or.inr rfl) (pe_fn F_law_sum (hr.mono (by decide)) (pa_cons (pv 1) (pa_cons (pv 2) pa_nil))))))
      (pss_one (ps_ret (pv 1))))), ?_⟩
    show (_ : TS) _ [some _, none, none] _
    try dsimp only [cxOf, Cx.nox]
    walk_at "go"
    refine r_forL rfl (by walk_at "sq") (fun i σ H1 => Ext [] H H1 ∧ ∃ fv u, σ = [some (.ref t), some fv, u] ∧ Am K H1 fv (sumQ (qs.take i))) ⟨Ext.refl.new (by assumption), _, _, rfl, ⟨_, rfl, tupS⟩⟩ (fun i σ H1 _ h => lst0 h.1 ht) ?_ ?_
    · rintro i x σ H1 hx ⟨e1, fv, u, rfl, hf⟩
      have hi : i < qs.length := by rw [← ha.1]; exact (List.getElem?_eq_some_iff.mp hx).1
      have hq : qs[i]? = some qs[i] := List.getElem?_eq_getElem hi
      have hM : qs.length * M ≤ 2 ^ 400 := hl
      have h1M : M ≤ qs.length * M := Nat.le_mul_of_pos_left M (by omega)
      have hb : In X (qs.length * M) (sumQ (qs.take i)) := (sum_in fun q hq => hz q (List.mem_of_mem_take hq)).most (Nat.mul_le_mul_right M (by rw [List.length_take]; omega))
      have hq0 := hz _ (List.getElem_mem hi)
      walk_at "go"
      refine ⟨_, _, _, qs[i], rfl, hf, (ha.2 i x _ hx hq).x0 e1, szG hb hX hX4 hM, szG hq0 hX hX4 (Nat.le_trans h1M hM), hb.nn, hq0.nn, trivial, fun v H' e a => ?_⟩
      walk_at "go"
      refine ⟨e1.trans e, _, _, rfl, ?_⟩
      rw [sumQ_take hq]
      exact a
    · rintro σ H1 ⟨e1, fv, u, rfl, hf⟩
      walk_at "go"
      rw [ha.1, List.take_length] at hf
      exact k _ _ e1 hf
end
end Yk

set_option maxHeartbeats 4000000
namespace Yk
open PySem PySem.Spec PyProof.Rows L2

/-! plus, told of multiples of one part. -/
section
variable {P : Program} {w : World} {K : PySem.W.Frag} {mg : Str → Option Value} {base : Heap} {f : Addr} {fd : FuncData}
def spPlusIT (K : PySem.W.Frag) : Sp := fun vs H Q _ => ∃ t xs qs X M, vs = [V.ref t] ∧ SqT K H t xs ∧ Ams K H xs qs ∧ (∀ q ∈ qs, In X M q) ∧ 0 < X ∧ X ≤ 2 ^ 400 ∧ qs.length * M ≤ 2 ^ 400 ∧ RetAm K H Q (sumQ qs)
def spPlusI (K : PySem.W.Frag) : Sp := fun vs H Q _ => ∃ qs X M, Ams K H vs qs ∧ (∀ q ∈ qs, In X M q) ∧ 0 < X ∧ X ≤ 2 ^ 400 ∧ qs.length * M ≤ 2 ^ 400 ∧ qs.length ≤ 4000 ∧ RetAm K H Q (sumQ qs)
theorem g_plus (F : FunD K "plus" "plus" (defArgs s_plus) (defBody s_plus) (defScope s_plus) [] [] f fd) (hm : mg "plus" = some (.ref f)) (TZ : ∃ z, mg "ZERO" = some (.ref z) ∧ ∀ H, SqT K H z [.int 0, .int 1]) (F_added : Fn P w K mg base 1 "_added" (spAdded K)) : Fn P w K mg base 2 "plus" (spPlusI K) := by
  refine fn_star (ps := []) (pv := "amounts") (sp := spPlusIT K) F hm c_plus (fun _ _ _ _ _ _ us rest hl => match us, rest, hl with | [], [], _ => rfl | [], _ :: _, _ => rfl) (fun cdv A outer s H vs Q E hr h => ?_) ?himp
  case himp =>
    exact fun vs H Q E ⟨qs, X, M, h1, h2, h3, h4, h5, h6, k⟩ => ⟨[], vs, rfl, rfl, Nat.le_trans (by rw [h1.1]; exact h6 : vs.length ≤ 4000) (by decide), fun p hp => ⟨p, vs, qs, X, M, rfl, tupS, h1.x0 (Ext.refl.new hp), h2, h3, h4, h5, fun v H' e a => k v H' ((Ext.refl.new hp).trans e) a⟩⟩
  · obtain ⟨t, xs, qs, X, M, rfl, ht, ha, hz, hX, hX4, hl, k⟩ := h
    have nd := c_plus.nd
    obtain ⟨z, mz, TZ⟩ := TZ
    refine ⟨_, (pss_cons (ps_set (i := 1) nd rfl (by first | exact Or.inl rfl | exact Or.inr rfl) (pe_glob (v := .ref z) rfl mz rfl))
      (pss_cons (ps_for PassesOwn.never rfl (pi_tup (pv 0)) (pg_name (i := 2) nd rfl (by first | exact Or.inl rfl | exact Or.inr rfl))
        (pss_one (ps_set (i := 1) nd rfl (by first | exact Or.inl rfl | exact Or.inr rfl) (pe_fn F_added (hr.mono (by decide)) (pa_cons (pv 1) (pa_cons (pv 2) pa_nil))))))
      (pss_one (ps_ret (pv 1))))), ?_⟩
    show (_ : TS) _ [some _, none, none] _
    try dsimp only [cxOf, Cx.nox]
    walk_at "go"
    refine r_forT rfl ht (fun i σ H1 => Ext [] H H1 ∧ ∃ fv u, σ = [some (.ref t), some fv, u] ∧ Am K H1 fv (sumQ (qs.take i))) ⟨Ext.refl, _, _, rfl, ⟨z, rfl, TZ _⟩⟩ (fun i σ H1 _ h => tup0 h.1 ht) ?_ ?_
    · rintro i x σ H1 hx ⟨e1, fv, u, rfl, hf⟩
      have hi : i < qs.length := by rw [← ha.1]; exact (List.getElem?_eq_some_iff.mp hx).1
      have hq : qs[i]? = some qs[i] := List.getElem?_eq_getElem hi
      have hM : qs.length * M ≤ 2 ^ 400 := hl
      have h1M : M ≤ qs.length * M := Nat.le_mul_of_pos_left M (by omega)
      have hb : In X (qs.length * M) (sumQ (qs.take i)) := (sum_in fun q hq => hz q (List.mem_of_mem_take hq)).most (Nat.mul_le_mul_right M (by rw [List.length_take]; omega))
      have hq0 := hz _ (List.getElem_mem hi)
      walk_at "go"
      refine ⟨_, _, _, qs[i], rfl, hf, (ha.2 i x _ hx hq).x0 e1, szG hb hX hX4 hM, szG hq0 hX hX4 (Nat.le_trans h1M hM), fun v H' e a => ?_⟩
      walk_at "go"
      refine ⟨e1.trans e, _, _, rfl, ?_⟩
      rw [sumQ_take hq]
      exact a
    · rintro σ H1 ⟨e1, fv, u, rfl, hf⟩
      walk_at "go"
      rw [ha.1, List.take_length] at hf
      exact k _ _ e1 hf
end
end Yk

set_option maxHeartbeats 1000000
/-! zip of three, each a list or a tuple. -/
namespace Yk
open PySem PySem.Spec PyProof.Rows L2
/-- a list (true) or a tuple at a -/
def SqB (K : PySem.W.Frag) (k : Bool) (H : Hp) (a : Addr) (xs : List V) : Prop := match k with
  | true => SqL K H a xs
  | false => SqT K H a xs
/-- its iterator -/
def ItB (k : Bool) (h : Heap) (it l : Addr) (i : Nat) : Prop := match k with
  | true => h.IsListIter it l i
  | false => h.IsTupleIter it l i
def SeB (k : Bool) (h : Heap) (l : Addr) (items : Array Value) : Prop := match k with
  | true => h.IsList l items
  | false => h.IsTuple l items
def ioB (k : Bool) (l : Addr) : Obj := match k with
  | true => { cls := .type "list_iterator", data := .fields #[.ref l, .int 0 0] }
  | false => { cls := .type "tuple_iterator", data := .fields #[.ref l, .int 0 0] }
theorem drawsB {prog : Program} {w : World} {A : Around} (hh : A.handled = none) (k : Bool) (it l : Addr) (hne : l ≠ it) (items : Array Value) :
    Draws prog w A it [it, l] items.size (fun i v => items[i]? = some v) (fun i h => ItB k h it l i ∧ SeB k h l items) := by
  cases k with
  | true => exact Draws.list hh it l hne items
  | false => exact Draws.tuple hh it l hne items
theorem beginsB (k : Bool) (l : Addr) (items : Array Value) : Begins (.ref l) (ioB k l) fun h => SeB k h l items := by
  cases k with
  | true => exact begins_list l items
  | false => exact begins_tuple l items
theorem ItB.at_ {k : Bool} {h h' : Heap} {it l : Addr} {i : Nat} (x : ItB k h it l i) (e : ∀ o, h.get? it = some o → h'.get? it = some o) : ItB k h' it l i := by
  cases k with
  | true => exact Heap.IsListIter.at x e
  | false => exact Heap.IsTupleIter.at x e
theorem ItB.ob {k : Bool} {h : Heap} {it l : Addr} {i : Nat} (x : ItB k h it l i) : ∃ o, h.get? it = some o ∧ ∀ v, o.data ≠ .cell v := by
  cases k with
  | true => obtain ⟨o, e, _, d⟩ := x; exact ⟨o, e, fun v q => by rw [d] at q; cases q⟩
  | false => obtain ⟨o, e, _, d⟩ := x; exact ⟨o, e, fun v q => by rw [d] at q; cases q⟩
theorem itB_new {k : Bool} {h : Heap} {it l : Addr} (e : h.get? it = some (ioB k l)) : ItB k h it l 0 := by
  cases k with
  | true => exact ⟨_, e, rfl, rfl⟩
  | false => exact ⟨_, e, rfl, rfl⟩
theorem seB_of {X : Cx} {pins : List (Addr × Obj)} {σ : L2.St} {H : Hp} {s : Shared} {k : Bool} {a : Addr} {xs : List V} (I : Inv X pins σ H s) (h : SqB X.K k H a xs) : ∃ its, Vals xs its ∧ SeB k s.heap a its.toArray ∧ a < s.heap.objs.size := by
  cases k with
  | true =>
    obtain ⟨its, rv, p, _⟩ := I.list h
    exact ⟨its, rv, p.isList, p.lt⟩
  | false =>
    obtain ⟨its, rv, p, _⟩ := I.tuple h
    have p' : s.heap.IsTuple a its.toArray := p
    obtain ⟨o, ho, _⟩ := id p'
    exact ⟨its, rv, p', Heap.lt_size ho⟩
theorem sqB_inj {X : Cx} {pins : List (Addr × Obj)} {σ : L2.St} {H : Hp} {s : Shared} {k : Bool} {a : Addr} {xs ys : List V} (I : Inv X pins σ H s) (h : SqB X.K k H a xs) (g : SqB X.K k H a ys) : ys = xs := by
  cases k with
  | true => exact I.list_inj g h
  | false => exact I.tuple_inj g h
/-- three as they stand at each turn, the items in new triples -/
def ItZ3 (K : PySem.W.Frag) (k1 k2 k3 : Bool) (a b c : Addr) : It :=
  ⟨fun i H => ∃ (xs ys zs : List V) (x y z : V), SqB K k1 H a xs ∧ SqB K k2 H b ys ∧ SqB K k3 H c zs ∧ xs[i]? = some x ∧ ys[i]? = some y ∧ zs[i]? = some z,
    fun i H v H' => ∃ T x y z, v = .ref T ∧ H T = none ∧ H' = upd H T (.tup [x, y, z]) ∧ (∀ xs, SqB K k1 H a xs → xs[i]? = some x) ∧ (∀ ys, SqB K k2 H b ys → ys[i]? = some y) ∧ ∀ zs, SqB K k3 H c zs → zs[i]? = some z,
    fun i H => ∃ xs ys zs : List V, SqB K k1 H a xs ∧ SqB K k2 H b ys ∧ SqB K k3 H c zs ∧ xs.length = i ∧ ys.length = i ∧ zs.length = i⟩
structure Z3Apart (z TI TO i1 i2 i3 a b c : Addr) : Prop where
  nd : [z, TI, TO, i1, i2, i3].Nodup
  a : a ∉ [z, TI, TO, i1, i2, i3]
  b : b ∉ [z, TI, TO, i1, i2, i3]
  c : c ∉ [z, TI, TO, i1, i2, i3]
theorem Z3Apart.sep {z TI TO i1 i2 i3 a b c : Addr} (D : Z3Apart z TI TO i1 i2 i3 a b c) : ZipSep3 z TI TO i1 i2 i3 [i1, a] [i2, b] [i3, c] := by
  have h := D.nd
  have ha := D.a
  have hb := D.b
  have hc := D.c
  simp only [List.nodup_cons, List.mem_cons, List.not_mem_nil, or_false, not_or] at h ha hb hc
  constructor <;> (try simp only [List.mem_cons, List.not_mem_nil, or_false, not_or, true_or]) <;> grind
theorem turn_z3 {P : Program} {w : World} {K : PySem.W.Frag} {elts : List Expr} {kk : Nat} {tpos : Pos} {k1 k2 k3 : Bool} {a b c z TI TO i1 i2 i3 : Addr} (D : Z3Apart z TI TO i1 i2 i3 a b c) :
    Turn P w K (.Tuple elts kk tpos) (ItZ3 K k1 k2 k3 a b c) [z, TI, TO, i1, i2, i3] z (fun i h => IsZip h z TI TO .none ∧ IsTupOf3 h TI (.ref i1) (.ref i2) (.ref i3) ∧ (∃ x y u, IsTupOf3 h TO x y u) ∧ ItB k1 h i1 a i ∧ ItB k2 h i2 b i ∧ ItB k3 h i3 c i) where
  mem := by simp
  obj := fun i h st d hd => by
    obtain ⟨hz, hTI, ⟨x, y, u, hTO⟩, h1, h2, h3⟩ := st
    have e' : d = z ∨ d = TI ∨ d = TO ∨ d = i1 ∨ d = i2 ∨ d = i3 := by simpa using hd
    rcases e' with q | q | q | q | q | q
    · rw [q]; exact ⟨_, hz, fun v q => nomatch q⟩
    · rw [q]; exact ⟨_, hTI, fun v q => nomatch q⟩
    · rw [q]; exact ⟨_, hTO, fun v q => nomatch q⟩
    · rw [q]; exact h1.ob
    · rw [q]; exact h2.ob
    · rw [q]; exact h3.ob
  keep := fun i h h' st k => by
    obtain ⟨hz, hTI, ⟨x, y, u, hTO⟩, h1, h2, h3⟩ := st
    exact ⟨k z (by simp) _ hz, k TI (by simp) _ hTI, ⟨x, y, u, k TO (by simp) _ hTO⟩, h1.at_ fun o q => k i1 (by simp) o q, h2.at_ fun o q => k i2 (by simp) o q, h3.at_ fun o q => k i3 (by simp) o q⟩
  item := by
    intro X hP hw hK hc i pins s σ H E I hf st hg
    subst hP hw hK
    obtain ⟨hz, hTI, ⟨x0, y0, u0, hTO⟩, h1, h2, h3⟩ := st
    obtain ⟨xs, ys, zs, x, y, v, hqx, hqy, hqz, hx, hy, hv⟩ := hg
    obtain ⟨its, rv, p, la⟩ := seB_of I hqx
    obtain ⟨its2, rv2, p2, lb⟩ := seB_of I hqy
    obtain ⟨its3, rv3, p3, lc⟩ := seB_of I hqz
    obtain ⟨u, hu, ru⟩ := rv.get hx
    obtain ⟨u2, hu2, ru2⟩ := rv2.get hy
    obtain ⟨u3, hu3, ru3⟩ := rv3.get hv
    have S := D.sep
    have hh : X.A.in1.handled = none := I.ok.hd hc
    have lt1 : i < its.toArray.size := by simpa using (List.getElem?_eq_some_iff.mp hu).1
    have lt2 : i < its2.toArray.size := by simpa using (List.getElem?_eq_some_iff.mp hu2).1
    have lt3 : i < its3.toArray.size := by simpa using (List.getElem?_eq_some_iff.mp hu3).1
    have na : a ≠ i1 := fun q => D.a (by rw [q]; simp)
    have nb : b ≠ i2 := fun q => D.b (by rw [q]; simp)
    have nc : c ≠ i3 := fun q => D.c (by rw [q]; simp)
    have hzl : z < s.heap.objs.size := Heap.lt_size hz
    refine wpAny_pyNext_zipD3_item S (drawsB hh k1 i1 a na its.toArray) (drawsB hh k2 i2 b nb its2.toArray) (drawsB hh k3 i3 c nc its3.toArray) hz hTI hTO ⟨h1, p⟩ ⟨h2, p2⟩ ⟨h3, p3⟩ lt1 lt2 lt3 fun x1 x2 x3 h' tk e1 e2 e3 z' TO' s1 s2 s3 hT hsz hk => ?_
    have f1 : x1 = u := by
      have e1 : its[i]? = some x1 := by simpa using e1
      rw [hu] at e1
      exact (Option.some.inj e1).symm
    have f2 : x2 = u2 := by
      have e2 : its2[i]? = some x2 := by simpa using e2
      rw [hu2] at e2
      exact (Option.some.inj e2).symm
    have f3 : x3 = u3 := by
      have e3 : its3[i]? = some x3 := by simpa using e3
      rw [hu3] at e3
      exact (Option.some.inj e3).symm
    subst f1 f2 f3
    refine ⟨_, rfl, wpAny_letOwnedTupleGo_zip (s := { s with heap := h', toks := tk }) z' fun h'' z'' sb => ?_⟩
    have hT2 : h''.get? s.heap.objs.size = some { cls := .type "tuple", data := .seq #[x1, x2, x3] } := (sb.2 _ (Nat.ne_of_gt hzl)).trans hT
    have new : ObjOk X.prog X.w (upd H s.heap.objs.size (.tup [x, y, v])) h'' s.heap.objs.size (.tup [x, y, v]) :=
      ⟨by show 3 ≤ sizeLine; decide, [x1, x2, x3], .cons ru (.cons ru2 (.cons ru3 .nil)), ⟨_, hT2, rfl, _, rfl⟩⟩
    have I1 : Inv X pins σ (upd H s.heap.objs.size (.tup [x, y, v])) { s with heap := h'', toks := tk } :=
      I.turnedNew (t' := tk) (ch := [z, TI, TO, i1, i2, i3]) (fun d o hb q => (sb.2 d (fun q' => hb (by simp [q']))).trans (hk d o (fun q' => hb (by simp [q'])) (fun q' => hb (by simp [q'])) (fun q' => hb (by simp [q'])) (fun q' => hb (by simp [q'])) (fun q' => hb (by simp [q'])) q)) hf (Nat.le_refl _) new
    have nd := D.nd
    simp only [List.nodup_cons, List.mem_cons, List.not_mem_nil, or_false, not_or] at nd
    refine ⟨.ref s.heap.objs.size, _, I1, rfl, ⟨_, x, y, v, rfl, I.hok.fresh (Nat.le_refl _), rfl, fun l hl => by rw [sqB_inj I hqx hl]; exact hx, fun l hl => by rw [sqB_inj I hqy hl]; exact hy, fun l hl => by rw [sqB_inj I hqz hl]; exact hv⟩, ⟨z'', ?_, ⟨x1, x2, x3, ?_⟩, ?_, ?_, ?_⟩, fun d hd => ?_⟩
    · exact (sb.2 _ S.TIz).trans (hk _ _ S.TIz S.TITO S.TIi1 S.TIi2 S.TIi3 hTI)
    · exact (sb.2 _ S.TOz).trans TO'
    · exact s1.1.at_ fun o q => (sb.2 _ (S.zi1.symm)).trans q
    · exact s2.1.at_ fun o q => (sb.2 _ (S.zi2.symm)).trans q
    · exact s3.1.at_ fun o q => (sb.2 _ (S.zi3.symm)).trans q
    · have hlt : d < s.heap.objs.size := by
        have e' : d = z ∨ d = TI ∨ d = TO ∨ d = i1 ∨ d = i2 ∨ d = i3 := by simpa using hd
        rcases e' with q | q | q | q | q | q
        · rw [q]; exact hzl
        · rw [q]; exact Heap.lt_size hTI
        · rw [q]; exact Heap.lt_size hTO
        · rw [q]; obtain ⟨_, e, _⟩ := h1.ob; exact Heap.lt_size e
        · rw [q]; obtain ⟨_, e, _⟩ := h2.ob; exact Heap.lt_size e
        · rw [q]; obtain ⟨_, e, _⟩ := h3.ob; exact Heap.lt_size e
      rw [upd_ne (Nat.ne_of_lt hlt)]
      exact (hf d hd).1
  done := by
    intro X hP hw hK hc i pins s σ H E I hf st hg
    subst hP hw hK
    obtain ⟨hz, hTI, ⟨x0, y0, u0, hTO⟩, h1, h2, h3⟩ := st
    obtain ⟨xs, ys, zs, hqx, hqy, hqz, e1, e2, e3⟩ := hg
    obtain ⟨its, rv, p, la⟩ := seB_of I hqx
    obtain ⟨its2, rv2, p2, lb⟩ := seB_of I hqy
    obtain ⟨its3, rv3, p3, lc⟩ := seB_of I hqz
    have S := D.sep
    have hh : X.A.in1.handled = none := I.ok.hd hc
    have l1 : i = its.toArray.size := by have := rv.length; simp; omega
    have l2 : i = its2.toArray.size := by have := rv2.length; simp; omega
    have l3 : i = its3.toArray.size := by have := rv3.length; simp; omega
    have na : a ≠ i1 := fun q => D.a (by rw [q]; simp)
    have nb : b ≠ i2 := fun q => D.b (by rw [q]; simp)
    have nc : c ≠ i3 := fun q => D.c (by rw [q]; simp)
    exact wpAny_pyNext_zipD3_end S (drawsB hh k1 i1 a na its.toArray) (drawsB hh k2 i2 b nb its2.toArray) (drawsB hh k3 i3 c nc its3.toArray) hz hTI hTO ⟨h1, p⟩ ⟨h2, p2⟩ ⟨h3, p3⟩ (Nat.le_of_eq l1) (Nat.le_of_eq l2) (Nat.le_of_eq l3) (.inl l1) fun h' tk hk =>
      ⟨rfl, I.turnedL (t' := tk) (ch := [z, TI, TO, i1, i2, i3]) (fun d o hb q => hk d o (fun q' => hb (by simp [q'])) (fun q' => hb (by simp [q'])) (fun q' => hb (by simp [q'])) (fun q' => hb (by simp [q'])) (fun q' => hb (by simp [q'])) q) hf⟩
  self := fun A i s Q E st h => wpAny_pyIter_zip st.1 h
def iZip3 (K : PySem.W.Frag) (ta : TA) : TI := fun σ H R => ta σ H fun vs H1 => ∃ (k1 k2 k3 : Bool) (a b c : Addr) (xs ys zs : List V), vs = [.ref a, .ref b, .ref c] ∧ SqB K k1 H1 a xs ∧ SqB K k2 H1 b ys ∧ SqB K k3 H1 c zs ∧ R (ItZ3 K k1 k2 k3 a b c) H1
theorem z3_apart (I l1 l2 l3 : Nat) (h1 : l1 < I) (h2 : l2 < I) (h3 : l3 < I) : Z3Apart (I + 5) (I + 3) (I + 4) I (I + 1) (I + 2) l1 l2 l3 := by
  constructor <;> (first | simp | skip) <;> (try refine ⟨?_, ?_⟩) <;> grind
theorem pi_zip3 {X : Cx} {e e2 e3 : Expr} {ta : TA} {p pos tpos : Pos} {elts : List Expr} {kk : Nat} (hg : Gl X "zip") (hm : X.mg "zip" = none) (ha : PA X [e, e2, e3] ta)
    (hs : starEach [e, e2, e3] X.env = (false, eval e X.env) :: starEach [e2, e3] X.env := by rfl) (hpl : (backTo pos (starEach [e2, e3] X.env)).any (·.1) = false := by rfl) :
    PI X (.Tuple elts kk tpos) (.Call (.Name "zip" p) [e, e2, e3] [] pos) (iZip3 X.K ta) := by
  refine ⟨fun pins s σ H R I h => ?_⟩
  refine Call_ (ld_blt I hg hm PyProof.Rows.boot_zip (PyProof.Rows.callWith_type1 (thn (ha.run pos pins s σ H _ I h) fun us s1 ⟨vs, H1, I1, r1, q1⟩ => ?_) hs hpl))
  obtain ⟨k1, k2, k3, a, b, c, xs, ys, zs, ex, hqx, hqy, hqz, q⟩ := q1
  subst ex
  cases r1 with
  | cons r rr =>
    cases rr with
    | cons r' rr =>
      cases rr with
      | cons r'' rr =>
        cases rr
        cases r
        cases r'
        cases r''
        have fresh6 : ∀ d, d ∈ [s1.heap.objs.size + 5, s1.heap.objs.size + 3, s1.heap.objs.size + 4, s1.heap.objs.size, s1.heap.objs.size + 1, s1.heap.objs.size + 2] → FpOk X pins H1 d := fun d hd => by
          have hle : s1.heap.objs.size ≤ d := by
            simp only [List.mem_cons, List.not_mem_nil, or_false] at hd
            rcases hd with z | z | z | z | z | z <;> rw [z] <;> omega
          exact I1.fpOk hle (I1.hok.fresh hle)
        obtain ⟨its, rv, p1, la⟩ := seB_of I1 hqx
        obtain ⟨its2, rv2, p2, lb⟩ := seB_of I1 hqy
        obtain ⟨its3, rv3, p3, lc⟩ := seB_of I1 hqz
        refine zip_begins3 (beginsB k1 a its.toArray) (beginsB k2 b its2.toArray) (beginsB k3 c its3.toArray) p1 p2 p3 fun h' hz hTI hTO h1 h2 h3 hsz hk => wpAny_pyIter_zip hz ?_
        have I2 : Inv X pins σ H1 { s1 with heap := h' } := I1.kept (t' := s1.toks) hk
        exact ⟨s1.heap.objs.size + 5, [s1.heap.objs.size + 5, s1.heap.objs.size + 3, s1.heap.objs.size + 4, s1.heap.objs.size, s1.heap.objs.size + 1, s1.heap.objs.size + 2], _, _, H1, rfl, I2, turn_z3 (z3_apart s1.heap.objs.size a b c la lb lc), ⟨hz, hTI, ⟨_, _, _, hTO⟩, itB_new h1, itB_new h2, itB_new h3⟩, fresh6, q⟩
section
variable {σ : L2.St} {H : Hp} {K : PySem.W.Frag}
theorem r_iZip3 {ta : TA} {R : It → Hp → Prop} (h : ta σ H fun vs H1 => ∃ (k1 k2 k3 : Bool) (a b c : Addr) (xs ys zs : List V), vs = [.ref a, .ref b, .ref c] ∧ SqB K k1 H1 a xs ∧ SqB K k2 H1 b ys ∧ SqB K k3 H1 c zs ∧ R (ItZ3 K k1 k2 k3 a b c) H1) : iZip3 K ta σ H R := h
/-- a comprehension over three of one length -/
theorem r_lcZ3 {k1 k2 k3 : Bool} {a b c : Addr} {xs ys zs : List V} {g : TG} {tt : TT} {te : TE} {vs : List Nat} {D : Addr} {Qd : Hp → Prop} (hl : xs.length = ys.length) (hl2 : xs.length = zs.length) (Pv : Nat → Hp → Prop) (h0 : Pv 0 (upd H D (.lst []))) (hq : ∀ i H, Pv i H → SqB K k1 H a xs ∧ SqB K k2 H b ys ∧ SqB K k3 H c zs)
    (hs : ∀ (i : Nat) (x y z : V) (T : Addr) (H : Hp), xs[i]? = some x → ys[i]? = some y → zs[i]? = some z → Pv i H → H T = none → g (.ref T) (wipe σ vs) (upd H T (.tup [x, y, z])) fun σ2 H2 => wipe σ2 vs = wipe σ vs ∧ tt σ2 H2 fun b H3 =>
      if b = true then te σ2 H3 fun y H4 => ∃ acc, H4 D = some (.lst acc) ∧ acc.length < sizeLine ∧ Pv (i + 1) (upd H4 D (.lst (acc ++ [y]))) else Pv (i + 1) H3) (hd : ∀ H, Pv xs.length H → Qd H) :
    ∃ W : Nat → Nat → Hp → Prop, (∃ m, W 0 m (upd H D (.lst []))) ∧ ∀ i m H, W i m H →
      ((ItZ3 K k1 k2 k3 a b c).stop i H ∧ Qd H) ∨ ((ItZ3 K k1 k2 k3 a b c).go i H ∧ ∃ Nx : Hp → Prop, (∀ H', Nx H' → ∃ m', m' < m ∧ W (i + 1) m' H') ∧ ∀ x H', (ItZ3 K k1 k2 k3 a b c).yld i H x H' → g x (wipe σ vs) H' fun σ2 H2 => wipe σ2 vs = wipe σ vs ∧ tt σ2 H2 fun b H3 =>
        if b = true then te σ2 H3 fun y H4 => ∃ acc, H4 D = some (.lst acc) ∧ acc.length < sizeLine ∧ Nx (upd H4 D (.lst (acc ++ [y]))) else Nx H3) := by
  refine ⟨fun i m H => m = xs.length - i ∧ i ≤ xs.length ∧ Pv i H, ⟨xs.length, rfl, Nat.zero_le _, h0⟩, ?_⟩
  rintro i m H ⟨rfl, hi, p⟩
  obtain ⟨qx, qy, qz⟩ := hq i H p
  by_cases hlt : i < xs.length
  · have hx : xs[i]? = some xs[i] := List.getElem?_eq_getElem hlt
    have hlt2 : i < ys.length := by omega
    have hy : ys[i]? = some ys[i] := List.getElem?_eq_getElem hlt2
    have hlt3 : i < zs.length := by omega
    have hz : zs[i]? = some zs[i] := List.getElem?_eq_getElem hlt3
    refine .inr ⟨⟨xs, ys, zs, _, _, _, qx, qy, qz, hx, hy, hz⟩, Pv (i + 1), fun H' p' => ⟨xs.length - (i + 1), by omega, rfl, hlt, p'⟩, fun v H' y => ?_⟩
    obtain ⟨T, x', y', z', rfl, hT, rfl, f1, f2, f3⟩ := y
    exact hs i x' y' z' T _ (f1 xs qx) (f2 ys qy) (f3 zs qz) p hT
  · have e : i = xs.length := by omega
    subst e
    exact .inl ⟨⟨xs, ys, zs, qx, qy, qz, rfl, hl.symm, hl2.symm⟩, hd H p⟩
end
end Yk

set_option maxHeartbeats 1000000
/-! sorted(xs, key=lambda x: x[0]) of tuples whose first items rise already. -/
namespace Yk
open PySem PySem.Spec PySem.Calls PyProof.Rows L2 LamX
/-- x[0] -/
abbrev keyB (x : Str) (j : Nat) (p1 p2 p3 : Pos) : Expr := .Subscript (.Name x p1) (.Constant (.int 0) j p2) p3
/-- a lambda of one name, which captures nothing -/
structure Lam1 (x : Str) (scope : Scope) : Prop where
  kind : scope.kind = .function
  co : scope.isCoroutine = false
  gen : scope.isGenerator = false
  own : scope.names.lookup x = some .local
  cell : ∀ y ∈ scope.names, y.2 ≠ .cell
  free : ∀ y ∈ scope.names, y.2 ≠ .free
def lam1B (x : Str) (scope : Scope) : Bool := decide (scope.kind = .function) && !scope.isCoroutine && !scope.isGenerator && decide (scope.names.lookup x = some .local) && scope.names.all fun y => !decide (y.2 = .cell) && !decide (y.2 = .free)
theorem lam1_by {x : Str} {scope : Scope} (h : lam1B x scope = true) : Lam1 x scope := by
  unfold lam1B at h
  simp only [Bool.and_eq_true, Bool.not_eq_true', decide_eq_true_eq, decide_eq_false_iff_not, List.all_eq_true] at h
  obtain ⟨⟨⟨⟨h1, h2⟩, h3⟩, h4⟩, h5⟩ := h
  exact ⟨h1, h2, h3, h4, fun y hy => (h5 y hy).1, fun y hy => (h5 y hy).2⟩
theorem key_call {prog : Program} {w : World} {A : Around} {s : Shared} {f c' t : Addr} {q x : Str} {params : Arguments} {scope : Scope} {pm ctv : Value} {j : Nat} {p1 p2 p3 : Pos} {items : Array Value} {k : Int} {tok : Tok} (hd : A.depth < recursionLimit) (lim : s.heap.NoLimit) (L : Lam1 x scope)
    (ho : s.heap.get? f = some (PySem.W.kla_obj "<lambda>" q params (keyB x j p1 p2 p3) scope [] pm c' ctv)) (hc : ∃ (oc : Obj) (vs : Array Value) (t : Tok), s.heap.get? c' = some oc ∧ oc.data = .fields vs ∧ vs[1]? = some (.str q t))
    (hbind : bindArgs (PySem.W.kla_fn "<lambda>" q params (keyB x j p1 p2 p3) scope [] pm (.ref c') ctv) ⟨[.ref t], []⟩ = pure [(x, .ref t)]) (it : IsTup s.heap t items) (h0 : items[0]? = some (.int k tok)) (hdb : (x == ("__debug__" : Str)) = false := by decide) :
    wpAny (model prog w) A (call (.ref f) [.ref t]) (PySem.W.KeyPure (.int k) s) (fun _ _ => False) s := by
  obtain ⟨oc, vs, tq, hoc, hdc, hvc⟩ := hc
  refine wpAny_call (PySem.W.kla_callFunE hd ho rfl L.co L.gen rfl ⟨c', oc, vs, tq, rfl, hoc, hdc, hvc⟩ ?_)
  rw [hbind]
  refine wpAny_pure (wpAny_newFunctionEnv L.cell (fun y hy => by rw [List.mem_singleton.mp hy]; exact L.own) (fun h₁ hns hsb => ⟨lim.fresh _ hsb, ?_⟩) L.kind)
  have kp : ∀ b o, s.heap.get? b = some o → h₁.get? b = some o := fun b o e => hsb.extBut b o (Nat.ne_of_lt (Heap.lt_size e)) (Heap.get?_push_of_some _ e)
  show codeAny _ _ (.expr (keyB x j p1 p2 p3) (PySem.W.envX q scope s.heap.objs.size f (.ref c') [])) _ _
  refine PySem.W.kla_codeExpr ?_
  refine Subscript_ (wpAny_Name (wpAny_loadName_local (m := fun y => [(x, Value.ref t)].reverse.lookup y) (v := .ref t) L.kind L.own hns (by simp [List.lookup]) ?_) hdb)
  refine wpAny_Constant_int ?_
  have it' : IsTup h₁ t items := it.keeps kp
  have lt : 0 < items.size := (Array.getElem?_eq_some_iff.mp h0).1
  refine subscriptTail_builtinR (x := .int k tok) it'.typeIs slot_tuple_getitem.lookup (getItem_tuple (j := 0) it' (by decide) (by decide) ?_ h0 ⟨rfl, ?_⟩)
  · exact PySem.StrLaws.seqIndex_nonneg (by decide) (by exact_mod_cast lt)
  · exact ⟨h₁, _, rfl, kp, .int k tok⟩
/-- the items are tuples that begin with these numbers -/
def KeysAre (K : PySem.W.Frag) (H : Hp) (xs : List V) (ks : List Int) : Prop := xs.length = ks.length ∧ ∀ (i : Nat) v k, xs[i]? = some v → ks[i]? = some k → ∃ t tl, v = .ref t ∧ SqT K H t (.int k :: tl)
def tSortL (K : PySem.W.Frag) (T : List (Addr × Str)) (tx : TE) : TE := fun σ H Q => tx σ H fun v H1 => Tabs T H1 ∧ ∀ H2, ExtN H1 H2 → Tabs T H2 → ∃ a xs ks, v = .ref a ∧ SqL K H2 a xs ∧ KeysAre K H2 xs ks ∧ ks.Pairwise (· ≤ ·) ∧
  ∀ p, H2 p = none → Q (.ref p) (upd H2 p (.lst xs))
theorem each_rel {xs : List V} {us : List Value} {ks : List Int} {R : Value → V × Int → Prop} (r : Vals xs us) (hl : xs.length = ks.length) (h : ∀ (i : Nat) v u k, xs[i]? = some v → us[i]? = some u → ks[i]? = some k → R u (v, k)) : PySem.W.EachIs R us (xs.zip ks) := by
  induction r generalizing ks with
  | nil => exact .nil
  | cons r1 r2 ih =>
    cases ks with
    | nil => cases hl
    | cons k ks =>
      exact .cons (h 0 _ _ _ rfl rfl rfl) (ih (by simpa using hl) fun i v u k' a b c => h (i + 1) v u k' a b c)
theorem vals_of_each {xs : List V} {us : List Value} {ks : List Int} (hl : xs.length = ks.length) (h : PySem.W.EachIs (fun (u : Value) (b : V × Int) => RelV b.1 u) us (xs.zip ks)) : Vals xs us := by
  induction xs generalizing us ks with
  | nil => cases h; exact .nil
  | cons v xs ih =>
    cases ks with
    | nil => cases hl
    | cons k ks =>
      cases h with
      | cons h1 h2 => exact .cons h1 (ih (by simpa using hl) h2)
section
variable {X : Cx}
theorem pe_sortL {T : List (Addr × Str)} {c P : Addr} {k j : Nat} {x : Str} {params : Arguments} {scope : Scope} {e : Expr} {tx : TE} {p lpos kpos pos p1 p2 p3 : Pos} (hg : Gl X "sorted") (hm : X.mg "sorted" = none) (he : PE X e tx)
    (TB : TabB X.base X.mg c P) (hcode : X.env.code = .ref c) (hmT : (P, X.env.qual ++ "<lambda>") ∈ T) (hu : ∀ p ∈ T, p.1 = P → p.2 = X.env.qual ++ "<lambda>") (hr : Room (k + 1) X.A) (L : Lam1 x scope) (hdef : defaultsOf params X.env = ([], []))
    (hbind : ∀ (q : Str) (pm cv ctv u : Value), bindArgs (PySem.W.kla_fn "<lambda>" q params (keyB x j p1 p2 p3) scope [] pm cv ctv) ⟨[u], []⟩ = pure [(x, u)]) (hcl : cloFrom X.env.cells scope.names [] = []) (hdb : (x == ("__debug__" : Str)) = false := by decide)
    (hst : backTo pos (starEach [e] X.env) = (false, eval e X.env) :: backTo pos (starEach [] X.env) := by rfl) (hpl : (backTo pos (starEach [e] X.env)).any (·.1) = false := by rfl) :
    PE X (.Call (.Name "sorted" p) [e] [⟨some "key", .Lambda params (keyB x j p1 p2 p3) scope lpos, kpos⟩] pos) (tSortL X.K T tx) := by
  refine ⟨fun pins s σ H Q I h => ?_⟩
  refine wpAny_Call_Name_kw (ld_blt I hg hm PyProof.Rows.boot_sorted ?_)
  refine PyProof.Rows.callWith_kw ?_ hst hpl (by rfl) (by rfl)
  rw [hst]
  refine spliced_cons (thn (he.run pins s σ H _ I h) fun u s1 ⟨v, H1, I1, r1, hT, q1⟩ => ?_)
  refine spliced_nil ?_
  show wpAny _ _ (evalAll [(do let v ← eval (.Lambda params (keyB x j p1 p2 p3) scope lpos) X.env; standAt pos; pure v)]) _ _ s1
  refine wpAny_evalAll_cons (wpAny_bind (lam_make2 I1 TB hcode hmT hu hT hdef (fun y hy z => absurd z (L.free y hy)) fun f c' pm ctv H2 s2 I2 eN T2 hf hfn hfr hco => wpAny_bind (wpAny_standAt (wpAny_pure ?_))))
  refine wpAny_evalAll_nil ?_
  show wpAny _ _ (call (.builtin "sorted") [u] [("key", .ref f)]) _ _ s2
  obtain ⟨a, xs, ks, rfl, ha, hk, hpw, q⟩ := q1 H2 eN T2
  cases r1
  obtain ⟨its, rv, hl, hz⟩ := I2.list ha
  have lxs := rv.length
  obtain ⟨lk, hk⟩ := hk
  have lz : (xs.zip ks).length = xs.length := by rw [List.length_zip]; omega
  have hf2 := hf
  rw [hcl] at hf2
  obtain ⟨oc, vs, t0, hoc, hdc, hvc⟩ := (I2.hok c' _ hco).1
  have hit : PySem.W.EachIs (fun (u : Value) (b : V × Int) => RelV b.1 u ∧ ∃ t items tok, u = .ref t ∧ IsTup s2.heap t items ∧ items[0]? = some (.int b.2 tok)) its (xs.zip ks) := each_rel rv lk fun i v u k e1 e2 e3 => by
    obtain ⟨t, tl, rfl, ht⟩ := hk i v k e1 e3
    obtain ⟨u', e4, r4⟩ := rv.get e1
    rw [e2] at e4
    cases e4
    cases r4
    obtain ⟨its2, r2, p2, _⟩ := I2.tuple ht
    cases r2 with
    | cons r5 r6 =>
      obtain ⟨tok, rfl⟩ := r5
      exact ⟨rfl, t, _, tok, rfl, p2, rfl⟩
  refine PySem.W.sorted_key_data (b := false) (kw := [("key", .ref f)]) (k := fun b : V × Int => .int b.2) hl.isList hit (fun d hd d' hd' => ?_) (.inr fun d hd => ?_) (by rw [lz]; exact hz) (fun b _ => ?_) (PyProof.Rows.ksk_s1 _ _) (fun _ => PyProof.Rows.ksk_l1 _ _) (fun _ => PyProof.Rows.ksk_t1 _ _) (fun v b hR _ h tk kp => ?_) fun out c0 h' tk kp hfree hob hlo hE => ?_
  · obtain ⟨b, _, rfl⟩ := List.mem_map.mp hd
    obtain ⟨b', _, rfl⟩ := List.mem_map.mp hd'
    rfl
  · obtain ⟨b, _, rfl⟩ := List.mem_map.mp hd
    exact ⟨(fun z => nomatch z), (fun _ z => nomatch z)⟩
  · have := hr.un
    show X.A.units + 2 + (PyData.int b.2).depth < cLine
    have : (PyData.int b.2).depth ≤ 1 := by simp [PyData.depth]
    omega
  · obtain ⟨_, t, items, tok, rfl, it, h0⟩ := hR
    exact key_call (s := { s2 with heap := h, toks := tk }) (x := x) (by have := hr.dp; show X.A.depth < _; omega) (I2.nolimit.keeps kp) L (kp _ _ hf2) ⟨oc, vs, t0, kp _ _ hoc, hdc, hvc⟩ (hbind _ _ _ _ _) (it.keeps kp) h0 hdb
  · rw [PySem.W.dataLe_int, List.mergeSort_of_pairwise ?_] at hE
    · have rv2 : Vals xs out := vals_of_each lk (hE.mono fun _ _ z => z.1)
      exact ⟨.ref _, upd H2 (s2.heap.objs.size + 1) (.lst xs), I2.laid (t' := tk) kp (Nat.le_succ _) ⟨hz, out, c0, rv2, hob⟩, rfl, q _ (I2.hok.fresh (Nat.le_succ _))⟩
    · rw [List.pairwise_iff_getElem]
      intro i j hi hj hij
      simp only [List.getElem_zip, decide_eq_true_eq]
      exact (List.pairwise_iff_getElem.mp hpw) i j _ _ hij
end
/-- a def whose code object is known -/
theorem fn_defC {P : Program} {w : World} {K : PySem.W.Frag} {mg : Str → Option Value} {base : Heap} {x : Str} {params : Arguments} {body : List Stmt} {scope : Scope} {f c : Addr} {fd : FuncData} {N ps : List Str} {k : Nat} {sp : Sp}
    (F : FunD K x x params body scope [] [] f fd) (hm : mg x = some (.ref f)) (hc : fd.code = .ref c) (S : FnScope N ps scope) (len : ∀ vs H Q E, sp vs H Q E → vs.length = ps.length)
    (hb : ∀ (kV doc pm : Value) (an : Option Addr) (cdv ct : Value) (us : List Value), us.length = ps.length → bindArgs (PySem.W.fnOf x x params body scope .none kV doc pm an cdv ct) ⟨us, []⟩ = pure (ps.zip us))
    (hbody : ∀ (A : Around) (outer : List Env) (s : Shared) (H : Hp) (vs : List V) (Q : VK) (E : XK), Room k (A.deeper (envOfC x scope s.heap.objs.size f (.ref c))) → sp vs H Q E →
      ∃ t, PSs (cxOf CX0 P w K mg base N x scope f (.ref c) A outer s H E).nox body t ∧ t ⟨fun _ H' => Q .non H', Q, fun _ _ => False, fun _ _ => False⟩ (start N vs) H) : Fn P w K mg base (k + 1) x sp := by
  have G : FnOk P w K mg base CX0 (k + 1) f fd ps sp := by
    obtain ⟨a1, a2, a3, a4, a5, a6, a7, cdv, a9, a10, e, lk, hcd, _⟩ := F.ex
    subst e
    obtain rfl : cdv = .ref c := hc
    exact fn_of lk hcd S len fun A outer s H vs Q E hr h => by
      obtain ⟨t, h1, h2⟩ := hbody A outer s H vs Q E hr h
      exact ⟨t, h1.nox, h2⟩
  have R := G.raw (F.bindsN hb) .nil
  refine ⟨f, hm, F.kp, R.imp fun vs H Q E h => ?_⟩
  rw [List.append_nil]
  exact h
theorem r_sortL {K : PySem.W.Frag} {T : List (Addr × Str)} {tx : TE} {σ : L2.St} {H : Hp} {Q : VK} (h : tx σ H fun v H1 => Tabs T H1 ∧ ∀ H2, ExtN H1 H2 → Tabs T H2 → ∃ a xs ks, v = .ref a ∧ SqL K H2 a xs ∧ KeysAre K H2 xs ks ∧ ks.Pairwise (· ≤ ·) ∧
  ∀ p, H2 p = none → Q (.ref p) (upd H2 p (.lst xs))) : tSortL K T tx σ H Q := h
abbrev CT (P0 : Addr) : List (Addr × Str) := [(P0, ("_law_extras" : Str) ++ ".<locals>." ++ "<lambda>")]
theorem tupE {K : PySem.W.Frag} {H H1 : Hp} {a : Addr} {xs : List V} (e : ExtN H H1) (h : SqT K H a xs) : SqT K H1 a xs := by
  rcases h with (h | ⟨o, h⟩) | h
  · exact .inl (.inl (e _ _ h fun _ z => nomatch z))
  · exact .inl (.inr ⟨o, e _ _ h fun _ z => nomatch z⟩)
  · exact .inr h
theorem lstE {K : PySem.W.Frag} {H H1 : Hp} {a : Addr} {xs : List V} (e : ExtN H H1) (h : SqL K H a xs) : SqL K H1 a xs := by
  rcases h with (h | ⟨o, h⟩) | h
  · exact .inl (.inl (e _ _ h fun _ z => nomatch z))
  · exact .inl (.inr ⟨o, e _ _ h fun _ z => nomatch z⟩)
  · exact .inr h
end Yk

set_option maxHeartbeats 4000000
namespace Yk
open PySem PySem.Spec PyProof.Rows L2

/-! Disciplines: what a link sends. -/
structure Fl where
  w : Nat
  p : Rat
  q : Rat
def Fl.own (f : Fl) : Rat := lmin f.p f.q
def Fl.want (f : Fl) : Want := ⟨f.w, f.q - f.own⟩
theorem Fl.own_le (f : Fl) : f.own ≤ f.q := lmin_le2 _ _
structure FlOk (D E M B : Nat) (fs : List Fl) (S : Rat) : Prop where
  n : fs.length ≤ 10
  w0 : ∀ f ∈ fs, 0 < f.w
  w12 : ∀ f ∈ fs, f.w ≤ 12
  p : ∀ f ∈ fs, In D M f.p
  q : ∀ f ∈ fs, In D M f.q
  goal : In E B S
  sum : sumQ (fs.map (·.own)) ≤ S
  D0 : 0 < D
  de : D * 27720 ∣ E
  E0 : 0 < E
  E9 : E ≤ 2 ^ 140
  B9 : B ≤ 2 ^ 24
  MB : 10 * M ≤ B
section
variable {D E M B : Nat} {fs : List Fl} {S : Rat}
theorem FlOk.dE (h : FlOk D E M B fs S) : D ∣ E := Nat.dvd_trans (Nat.dvd_mul_right _ _) h.de
theorem FlOk.M9 (h : FlOk D E M B fs S) : M ≤ 2 ^ 24 := by have := h.MB; have := h.B9; omega
theorem FlOk.own (h : FlOk D E M B fs S) {f : Fl} (hf : f ∈ fs) : In D M f.own := (h.p f hf).lmin1 (h.q f hf)
theorem FlOk.sz (h : FlOk D E M B fs S) {q : Rat} (i : In D M q) : Sz 165 q := (i.up h.dE).sz h.E0 h.E9 h.M9
theorem FlOk.szE (h : FlOk D E M B fs S) {q : Rat} (i : In E B q) : Sz 165 q := i.sz h.E0 h.E9 h.B9
theorem FlOk.owns (h : FlOk D E M B fs S) : In E B (sumQ (fs.map (·.own))) := by
  have h1 := (sum_in (l := fs.map (·.own)) fun q hq => by obtain ⟨f, hf, rfl⟩ := List.mem_map.mp hq; exact (h.own hf).up h.dE).most (M' := B) ?_
  · exact h1
  · rw [List.length_map]
    exact Nat.le_trans (Nat.mul_le_mul_right M h.n) h.MB
theorem FlOk.sp (h : FlOk D E M B fs S) : SpOk D E M B (fs.map (·.want)) (S - sumQ (fs.map (·.own))) :=
  ⟨fun o ho => by obtain ⟨f, hf, rfl⟩ := List.mem_map.mp ho; exact ⟨h.w0 f hf, h.w12 f hf, (h.q f hf).sub (h.own hf) f.own_le⟩, by rw [List.length_map]; exact h.n, h.D0, h.de, h.E0, h.E9, h.B9, h.MB, h.goal.sub h.owns h.sum⟩
end
section
variable {K : PySem.W.Frag} {H H1 : Hp} {k : Bool} {a : Addr} {xs : List V}
theorem sqb0 (e : Ext [] H H1) (h : SqB K k H a xs) : SqB K k H1 a xs := by
  cases k with
  | true => exact lst0 e h
  | false => exact tup0 e h
theorem sqbQ (h : SqB K k H a xs) : SqQ K H a xs := by
  cases k with
  | true => exact .inl h
  | false => exact .inr h
end
section
variable {P : Program} {w : World} {K : PySem.W.Frag} {mg : Str → Option Value} {base : Heap} {f : Addr} {fd : FuncData}
def spOwnF (K : PySem.W.Frag) : Sp := fun vs H Q _ => ∃ (k : Bool) (a b : Addr) (xs ys : List V) (fs : List Fl), vs = [.ref a, .ref b] ∧ SqB K k H a xs ∧ SqB K k H b ys ∧ Ams K H xs (fs.map (·.p)) ∧ Ams K H ys (fs.map (·.q)) ∧ fs.length ≤ 10 ∧ (∀ f ∈ fs, Sz 4000 f.p ∧ Sz 4000 f.q) ∧
  ∀ (c : Addr) (zs : List V) H', H c = none → H' c = some (.lst zs) → Ams K H' zs (fs.map (·.own)) → Ext [] H H' → Q (.ref c) H'
theorem fmap {β : Type} {g : Fl → β} {fs : List Fl} {i : Nat} {y : β} (h : (fs.map g)[i]? = some y) : ∃ f, fs[i]? = some f ∧ y = g f := by
  rw [List.getElem?_map] at h
  cases e : fs[i]? with
  | none => rw [e] at h; cases h
  | some f => rw [e] at h; cases h; exact ⟨f, rfl, rfl⟩
abbrev s_own_sends : Stmt := top 29
theorem c_own_sends : FnScope ["allotments", "limits", "own", "limit"] ["allotments", "limits"] (defScope s_own_sends) := ⟨rfl, rfl, rfl, by decide +kernel, rfl, by decide +kernel, by decide +kernel⟩
theorem f_own_sends (F : FunD K "own_sends" "own_sends" (defArgs s_own_sends) (defBody s_own_sends) (defScope s_own_sends) [] [] f fd) (hm : mg "own_sends" = some (.ref f)) (T : Bt mg) (Fsmallest : Fn P w K mg base 2 "smallest" (spMin minQ K)) : Fn P w K mg base 3 "own_sends" (spOwnF K) := by
  refine fn_def F hm c_own_sends (fun vs H Q E h => ?_) (fun _ _ _ _ _ _ us hl => match us, hl with | [_, _], _ => rfl) (fun cdv A outer s H vs Q E hr h => ?_)
  · obtain ⟨k, a, b, xs, ys, fs, rfl, _⟩ := h
    rfl
  · obtain ⟨k, a, b, xs, ys, fs, rfl, ha, hb, hp, hq, hn, hz, k'⟩ := h
    have nd := c_own_sends.nd
    refine ⟨_, (pss_one (ps_ret (pe_lc (own := [("own", 2), ("limit", 3)])  rfl nd (RZ.pi_zipA (by rfl) T.zip (pa_cons (pv 0) (pa_cons (pv 1) pa_nil))) (blkOk_by (N := ["allotments", "limits", "own", "limit"]) (sc := defScope s_own_sends) (by decide +kernel)) (fun _ _ _ _ _ => (pg_tup (n := 2) rfl (pgs_cons (pg_name (i := 2) nd rfl (Or.inl rfl)) (pgs_cons (pg_name (i := 3) nd rfl (Or.inl rfl)) pgs_nil)) : PG _ _ (gTup K 2 _))) (fun _ _ _ _ _ => pts_nil) (fun _ _ _ _ _ => (pe_fn Fsmallest (hr.mono (by decide)) (pa_cons (pv 2) (pa_cons (pv 3) pa_nil))))))), ?_⟩
    show (_ : TS) _ [some _, some _, none, none] _
    try dsimp only [cxOf, Cx.nox]
    have lx := hp.1
    have ly := hq.1
    rw [List.length_map] at lx ly
    have hl : xs.length = ys.length := by omega
    cases k
    all_goals
      walk_at "go"
      first | refine ⟨a, b, xs, ys, rfl, .inl ⟨ha, hb, fun D1 hD => ?_⟩⟩ | refine ⟨a, b, xs, ys, rfl, .inr ⟨ha, hb, fun D1 hD => ?_⟩⟩
      first | refine r_lcZL hl (fun i H1 => ∃ acc : List V, Ext [] H H1 ∧ H1 D1 = some (.lst acc) ∧ Ams K H1 acc ((fs.take i).map (·.own))) ⟨[], Ext.refl.new hD, upd_same, Ams.nil⟩ (fun i H1 p => by obtain ⟨_, e, _⟩ := p; exact ⟨lst0 e ha, lst0 e hb⟩) ?_ ?_ | refine r_lcZT hl (fun i H1 => ∃ acc : List V, Ext [] H H1 ∧ H1 D1 = some (.lst acc) ∧ Ams K H1 acc ((fs.take i).map (·.own))) ⟨[], Ext.refl.new hD, upd_same, Ams.nil⟩ (fun i H1 p => by obtain ⟨_, e, _⟩ := p; exact ⟨tup0 e ha, tup0 e hb⟩) ?_ ?_
      · rintro i x y T H1 hx hy ⟨acc, e1, h1, ams⟩ hT
        have hi : i < xs.length := (List.getElem?_eq_some_iff.mp hx).1
        have m1 := (Ext.refl (S := []) (H := H1)).new (o := .tup [x, y]) hT
        have e2 := e1.trans m1
        obtain ⟨p, hp1, ap⟩ := hp.at_ hx
        obtain ⟨fl, hf, rfl⟩ := fmap hp1
        obtain ⟨q, hq1, aq⟩ := hq.at_ hy
        obtain ⟨fl', hf', rfl⟩ := fmap hq1
        rw [hf] at hf'
        cases hf'
        obtain ⟨z1, z2⟩ := hz fl (List.mem_of_getElem? hf)
        have hl1 := ams.1
        rw [List.length_map, List.length_take] at hl1
        walk_at "go"
        refine ⟨rfl, ?_⟩
        walk_at "go"
        refine k_min2 (ap.x0 e2) (aq.x0 e2) z1 z2 fun v3 H3 n3 a3 => ?_
        have hac : H3 D1 = some (.lst acc) := (m1.trans n3) _ _ h1 fun z => nomatch z
        refine ⟨acc, hac, Nat.lt_of_le_of_lt (by omega : acc.length ≤ 4000) (by decide), acc ++ [v3], (e2.trans n3).own hD, upd_same, ?_⟩
        rw [take_map' hf]
        exact (((ams.x0 m1).x0 n3).w hac).app (Ams.cons (a3.w hac) Ams.nil)
      · rintro H1 ⟨acc, e1, h1, ams⟩
        rw [lx, List.take_length] at ams
        walk_at "go"
        exact k' D1 acc H1 hD h1 ams e1
/-- weights -/
def wv (fs : List Fl) : List V := fs.map fun f => V.int (f.w : Int)
def addQ : List Rat → List Rat → List Rat
  | p :: ps, q :: qs => (p + q) :: addQ ps qs
  | _, _ => []
theorem addQ_len : ∀ {ps qs : List Rat}, ps.length = qs.length → (addQ ps qs).length = ps.length
  | [], [], _ => rfl
  | p :: ps, q :: qs, h => by show (addQ ps qs).length + 1 = ps.length + 1; rw [addQ_len (by simpa using h)]
theorem addQ_take : ∀ {ps qs : List Rat} {i : Nat} {p q : Rat}, ps[i]? = some p → qs[i]? = some q → addQ (ps.take (i + 1)) (qs.take (i + 1)) = addQ (ps.take i) (qs.take i) ++ [p + q]
  | a :: ps, b :: qs, 0, p, q, h1, h2 => by cases h1; cases h2; rfl
  | a :: ps, b :: qs, i + 1, p, q, h1, h2 => by
    show (a + b) :: addQ (ps.take (i + 1)) (qs.take (i + 1)) = (a + b) :: (addQ (ps.take i) (qs.take i) ++ [p + q])
    rw [addQ_take (by simpa using h1) (by simpa using h2)]
def spSpareF (K : PySem.W.Frag) : Sp := fun vs H Q _ => ∃ (k : Bool) (cv : V) (c a b : Addr) (xs ys : List V) (fs : List Fl) (D E M B : Nat) (S : Rat), vs = [cv, .ref c, .ref a, .ref b] ∧ SqB K k H c (wv fs) ∧ SqB K k H a xs ∧ SqB K k H b ys ∧ Ams K H xs (fs.map (·.p)) ∧ Ams K H ys (fs.map (·.q)) ∧ Am K H cv S ∧ FlOk D E M B fs S ∧
  ∀ (c : Addr) (zs : List V) (gs : List Rat) H', Filled (fs.map (·.want)) (S - sumQ (fs.map (·.own))) gs → H c = none → H' c = some (.lst zs) → Ams K H' zs (addQ (fs.map (·.own)) gs) → Ext [] H H' → Q (.ref c) H'
abbrev s_spare_sends : Stmt := top 30
theorem c_spare_sends : FnScope ["capacity", "weights", "allotments", "limits", "sends", "wants", "weight", "limit", "sent", "extras", "extra"] ["capacity", "weights", "allotments", "limits"] (defScope s_spare_sends) := ⟨rfl, rfl, rfl, by decide +kernel, rfl, by decide +kernel, by decide +kernel⟩
theorem f_spare_sends (F : FunD K "spare_sends" "spare_sends" (defArgs s_spare_sends) (defBody s_spare_sends) (defScope s_spare_sends) [] [] f fd) (hm : mg "spare_sends" = some (.ref f)) (T : Bt mg) (Fminus : Fn P w K mg base 2 "minus" (spMinus K)) (Fplus : Fn P w K mg base 2 "plus" (spPlus K)) (Fown_sends : Fn P w K mg base 3 "own_sends" (spOwnF K)) (Fspare_shares : Fn P w K mg base 12 "spare_shares" (spSpare K)) : Fn P w K mg base 13 "spare_sends" (spSpareF K) := by
  refine fn_def F hm c_spare_sends (fun vs H Q E h => ?_) (fun _ _ _ _ _ _ us hl => match us, hl with | [_, _, _, _], _ => rfl) (fun cdv A outer s H vs Q E hr h => ?_)
  · obtain ⟨k, cv, c, a, b, xs, ys, fs, D, E, M, B, S, rfl, _⟩ := h
    rfl
  · obtain ⟨k, cv, c, a, b, xs, ys, fs, D, E, M, B, S, rfl, hc, ha, hb, hp, hq, hS, W, k'⟩ := h
    have nd := c_spare_sends.nd
    refine ⟨_, (pss_cons (ps_set (i := 4) nd rfl (by first | exact Or.inl rfl | exact Or.inr rfl) (pe_fn Fown_sends (hr.mono (by decide)) (pa_cons (pv 2) (pa_cons (pv 3) pa_nil))))
      (pss_cons (ps_setLc (i := 5) (own := [("weight", 6), ("limit", 7), ("sent", 8)])  rfl nd rfl rfl (sw_true rfl rfl rfl (by decide +kernel)) (pi_zip3 (by rfl) T.zip (pa_cons (pv 1) (pa_cons (pv 3) (pa_cons (pv 4) pa_nil)))) (blkOk_by (N := ["capacity", "weights", "allotments", "limits", "sends", "wants", "weight", "limit", "sent", "extras", "extra"]) (sc := defScope s_spare_sends) (by decide +kernel)) (fun _ _ _ _ _ => (pg_tup (n := 3) rfl (pgs_cons (pg_name (i := 6) nd rfl (Or.inl rfl)) (pgs_cons (pg_name (i := 7) nd rfl (Or.inl rfl)) (pgs_cons (pg_name (i := 8) nd rfl (Or.inl rfl)) pgs_nil))) : PG _ _ (gTup K 3 _))) (fun _ _ _ _ _ => pts_nil) (fun _ _ _ _ _ => (pe_tup (pa_cons (pv 6) (pa_cons (pe_fn Fminus (hr.mono (by decide)) (pa_cons (pv 7) (pa_cons (pv 8) pa_nil))) pa_nil)))))
      (pss_cons (ps_set (i := 9) nd rfl (by first | exact Or.inl rfl | exact Or.inr rfl) (pe_fn Fspare_shares (hr.mono (by decide)) (pa_cons (pe_fn Fminus (hr.mono (by decide)) (pa_cons (pv 0) (pa_cons (pe_fnS1 Fplus (hr.mono (by decide)) (pv 4)) pa_nil))) (pa_cons (pv 5) pa_nil))))
      (pss_one (ps_ret (pe_lc (own := [("sent", 8), ("extra", 10)])  rfl nd (RZ.pi_zipA (by rfl) T.zip (pa_cons (pv 4) (pa_cons (pv 9) pa_nil))) (blkOk_by (N := ["capacity", "weights", "allotments", "limits", "sends", "wants", "weight", "limit", "sent", "extras", "extra"]) (sc := defScope s_spare_sends) (by decide +kernel)) (fun _ _ _ _ _ => (pg_tup (n := 2) rfl (pgs_cons (pg_name (i := 8) nd rfl (Or.inl rfl)) (pgs_cons (pg_name (i := 10) nd rfl (Or.inl rfl)) pgs_nil)) : PG _ _ (gTup K 2 _))) (fun _ _ _ _ _ => pts_nil) (fun _ _ _ _ _ => (pe_fn Fplus (hr.mono (by decide)) (pa_cons (pv 8) (pa_cons (pv 10) pa_nil)))))))))), ?_⟩
    show (_ : TS) _ [some _, some _, some _, some _, none, none, none, none, none, none, none] _
    try dsimp only [cxOf, Cx.nox]
    have lx := hp.1
    have ly := hq.1
    rw [List.length_map] at lx ly
    have ln := W.n
    have D0 := W.D0
    have E0 := W.E0
    have E9 : E ≤ 2 ^ 360 := Nat.le_trans W.E9 le_two
    have lw : (wv fs).length = fs.length := by unfold wv; rw [List.length_map]
    have zw : ∀ {q : Rat}, In D M q → Sz 4000 q := fun i => (W.sz i).mono (by decide)
    have io : ∀ q ∈ fs.map (·.own), In D M q := fun q hq => by obtain ⟨f, hf, rfl⟩ := List.mem_map.mp hq; exact W.own hf
    walk_at "go"
    refine ⟨k, a, b, xs, ys, fs, rfl, ha, hb, hp, hq, ln, fun f hf => ⟨zw (W.p f hf), zw (W.q f hf)⟩, fun D1 zs1 H1 hD1 h1 ams1 n1 => ?_⟩
    have lz := ams1.1
    rw [List.length_map] at lz
    walk_at "go"
    refine r_iZip3 ?_
    walk_at "go"
    refine ⟨k, k, true, c, b, D1, wv fs, ys, zs1, rfl, sqb0 n1 hc, sqb0 n1 hb, .inl (.inl h1), fun D2 hD2 => ?_⟩
    refine r_lcZ3 (xs := wv fs) (ys := ys) (zs := zs1) (by omega) (by omega) (fun i H2 => ∃ acc : List V, Ext [] H1 H2 ∧ H2 D2 = some (.lst acc) ∧ WantsIs K H2 acc ((fs.take i).map (·.want))) ⟨[], Ext.refl.new hD2, upd_same, Rel.nil⟩ (fun i H2 p => by obtain ⟨_, e, _⟩ := p; exact ⟨sqb0 (n1.trans e) hc, sqb0 (n1.trans e) hb, .inl (.inl (e _ _ h1 fun z => nomatch z))⟩) ?_ ?_
    · rintro i x y z T H2 hx hy hz ⟨acc, e2, h2, ws⟩ hT
      have hi : i < (wv fs).length := (List.getElem?_eq_some_iff.mp hx).1
      have m1 := (Ext.refl (S := []) (H := H2)).new (o := .tup [x, y, z]) hT
      obtain ⟨fl, hf, rfl⟩ := fmap hx
      obtain ⟨q, hq1, aq⟩ := hq.at_ hy
      obtain ⟨fl', hf', rfl⟩ := fmap hq1
      rw [hf] at hf'
      cases hf'
      obtain ⟨o, ho1, ao⟩ := ams1.at_ hz
      obtain ⟨fl', hf', rfl⟩ := fmap ho1
      rw [hf] at hf'
      cases hf'
      have hm := List.mem_of_getElem? hf
      have hl1 := ws.1
      rw [List.length_map, List.length_take] at hl1
      walk_at "go"
      refine ⟨rfl, ?_⟩
      walk_at "go"
      refine k_minus (aq.x0 (n1.trans (e2.trans m1))) (ao.x0 (e2.trans m1)) fl.own_le (zw (W.q fl hm)) (zw (W.own hm)) fun v3 H3 n3 a3 => ?_
      walk_at "go"
      rename_i p hp1
      have m4 := (Ext.refl (S := []) (H := H3)).new (o := .tup [.int (fl.w : Int), v3]) hp1
      have n4 := (m1.trans n3).trans m4
      have wi : WantIs K (upd H3 p (.tup [.int (fl.w : Int), v3])) (.ref p) fl.want := ⟨p, v3, rfl, tupS, a3.x0 m4⟩
      have hac := n4 _ _ h2 fun z => nomatch z
      have ws4 := ws.x0 n4
      generalize upd H3 p (.tup [.int (fl.w : Int), v3]) = H4 at *
      refine ⟨acc, hac, Nat.lt_of_le_of_lt (by omega : acc.length ≤ 4000) (by decide), acc ++ [.ref p], (e2.trans n4).own hD2, upd_same, ?_⟩
      rw [take_map' hf]
      exact Rel.snoc (WantsIs.w hac ws4) (wi.x extW (lstS1 hac))
    · rintro H2 ⟨acc, e2, h2, ws⟩
      rw [lw, List.take_length] at ws
      have e12 := n1.trans e2
      have h12 := e2 _ _ h1 fun z => nomatch z
      walk_at "go"
      refine ⟨D1, zs1, rfl, .inr (.inl (.inl h12)), fs.map (·.own), 165, ams1.x0 e2, fun q hq => W.sz (io q hq), by decide, by rw [List.length_map]; omega, fun v3 H3 n3 a3 => ?_⟩
      have e13 := e12.trans n3
      walk_at "go"
      refine k_minus (hS.x0 e13) a3 W.sum ((W.szE W.goal).mono (by decide)) ((W.szE W.owns).mono (by decide)) fun v4 H4 n4 a4 => ?_
      walk_at "go"
      have h24 : H4 D2 = some (.lst acc) := (n3.trans n4) _ _ h2 fun z => nomatch z
      refine ⟨v4, D2, acc, fs.map (·.want), D, E, M, B, S - sumQ (fs.map (·.own)), rfl, .inl (.inl (.inl h24)), ws.x0 (n3.trans n4), a4, W.sp, fun c5 zs5 gs X H5 F X0 X9 iy hc5 h5 ams5 n5 => ?_⟩
      have n25 := (n3.trans n4).trans n5
      have e15 := e12.trans n25
      have h15 : H5 D1 = some (.lst zs1) := n25 _ _ h12 fun z => nomatch z
      have lg := F.len
      rw [List.length_map] at lg
      have l5 := ams5.1
      have X9' : X ≤ 2 ^ 360 := Nat.le_trans X9 (Nat.pow_le_pow_right (by decide) (by decide))
      walk_at "go"
      refine ⟨D1, c5, zs1, zs5, rfl, .inl ⟨.inl (.inl h15), .inl (.inl h5), fun D6 hD6 => ?_⟩⟩
      refine r_lcZL (xs := zs1) (ys := zs5) (by omega) (fun i H6 => ∃ acc : List V, Ext [] H5 H6 ∧ H6 D6 = some (.lst acc) ∧ Ams K H6 acc (addQ ((fs.map (·.own)).take i) (gs.take i))) ⟨[], Ext.refl.new hD6, upd_same, Ams.nil⟩ (fun i H6 p => by obtain ⟨_, e, _⟩ := p; exact ⟨.inl (.inl (e _ _ h15 fun z => nomatch z)), .inl (.inl (e _ _ h5 fun z => nomatch z))⟩) ?_ ?_
      · rintro i x y T H6 hx hy ⟨acc6, e6, h6, ams6⟩ hT
        have hi : i < zs1.length := (List.getElem?_eq_some_iff.mp hx).1
        have m1 := (Ext.refl (S := []) (H := H6)).new (o := .tup [x, y]) hT
        obtain ⟨p, hp1, ap⟩ := ams1.at_ hx
        obtain ⟨g, hg1, ag⟩ := ams5.at_ hy
        have hl6 := ams6.1
        rw [addQ_len (by rw [List.length_take, List.length_take, List.length_map]; omega), List.length_take, List.length_map] at hl6
        walk_at "go"
        refine ⟨rfl, ?_⟩
        walk_at "go"
        refine k_plus2 ((ap.x0 (e2.trans n25)).x0 (e6.trans m1)) (ag.x0 (e6.trans m1)) ((W.sz (io p (List.mem_of_getElem? hp1))).mono (by decide)) (((iy g (List.mem_of_getElem? hg1)).sz X0 X9 W.M9).mono (by decide)) fun v7 H7 n7 a7 => ?_
        have hac : H7 D6 = some (.lst acc6) := (m1.trans n7) _ _ h6 fun z => nomatch z
        refine ⟨acc6, hac, Nat.lt_of_le_of_lt (by omega : acc6.length ≤ 4000) (by decide), acc6 ++ [v7], (e6.trans (m1.trans n7)).own hD6, upd_same, ?_⟩
        rw [addQ_take hp1 hg1]
        exact (((ams6.x0 m1).x0 n7).w hac).app (Ams.cons (a7.w hac) Ams.nil)
      · rintro H6 ⟨acc6, e6, h6, ams6⟩
        rw [show zs1.length = (fs.map (·.own)).length by rw [List.length_map]; exact lz, List.take_length, List.length_map, show fs.length = gs.length from lg.symm, List.take_length] at ams6
        walk_at "go"
        exact k' D6 acc6 gs H6 F ((e15).free hD6) h6 ams6 (e15.trans e6)
def rankQ : Rat → List Rat → List Rat
  | _, [] => []
  | r, q :: l => lmin q r :: rankQ (r - lmin q r) l
theorem rankQ_len : ∀ (r : Rat) (l : List Rat), (rankQ r l).length = l.length
  | _, [] => rfl
  | r, q :: l => by show (rankQ _ l).length + 1 = l.length + 1; rw [rankQ_len]
theorem lmin_nn {p q : Rat} (h1 : 0 ≤ p) (h2 : 0 ≤ q) : 0 ≤ lmin p q := by unfold lmin; grind
/-- what is left behind the first -/
def restR : Rat → List Rat → Rat
  | r, [] => r
  | r, q :: l => restR (r - lmin q r) l
theorem rest_snoc : ∀ (r : Rat) (l : List Rat) (q : Rat), restR r (l ++ [q]) = restR r l - lmin q (restR r l)
  | _, [], _ => rfl
  | r, a :: l, q => rest_snoc (r - lmin a r) l q
theorem rank_snoc : ∀ (r : Rat) (l : List Rat) (q : Rat), rankQ r (l ++ [q]) = rankQ r l ++ [lmin q (restR r l)]
  | _, [], _ => rfl
  | r, a :: l, q => by
    show lmin a r :: rankQ (r - lmin a r) (l ++ [q]) = lmin a r :: (rankQ (r - lmin a r) l ++ [lmin q (restR (r - lmin a r) l)])
    rw [rank_snoc]
theorem restR_in {E B : Nat} : ∀ {l : List Rat} {r : Rat}, In E B r → (∀ q ∈ l, In E B q) → In E B (restR r l)
  | [], r, h, _ => h
  | q :: l, r, h, hl => restR_in (l := l) (h.sub ((hl q List.mem_cons_self).lmin h) (lmin_le2 _ _)) fun x hx => hl x (List.mem_cons_of_mem _ hx)
def spRankF (K : PySem.W.Frag) : Sp := fun vs H Q _ => ∃ (k : Bool) (cv : V) (a : Addr) (xs : List V) (qs : List Rat) (E B : Nat) (S : Rat), vs = [cv, .ref a] ∧ SqB K k H a xs ∧ Ams K H xs qs ∧ Am K H cv S ∧ In E B S ∧ (∀ q ∈ qs, In E B q) ∧ qs.length ≤ 10 ∧ 0 < E ∧ E ≤ 2 ^ 140 ∧ B ≤ 2 ^ 24 ∧
  ∀ (c : Addr) (zs : List V) H', H c = none → H' c = some (.lst zs) → Ams K H' zs (rankQ S qs) → Ext [] H H' → Q (.ref c) H'
theorem take_app {α : Type} {l : List α} {i : Nat} {x : α} (h : l[i]? = some x) : l.take (i + 1) = l.take i ++ [x] := take_snoc h
abbrev s_rank_sends : Stmt := top 31
theorem c_rank_sends : FnScope ["capacity", "limits", "sends", "rest", "limit", "sent"] ["capacity", "limits"] (defScope s_rank_sends) := ⟨rfl, rfl, rfl, by decide +kernel, rfl, by decide +kernel, by decide +kernel⟩
theorem f_rank_sends (F : FunD K "rank_sends" "rank_sends" (defArgs s_rank_sends) (defBody s_rank_sends) (defScope s_rank_sends) [] [] f fd) (hm : mg "rank_sends" = some (.ref f)) (T : Bt mg) (Fminus : Fn P w K mg base 2 "minus" (spMinus K)) (Fsmallest : Fn P w K mg base 2 "smallest" (spMin minQ K)) : Fn P w K mg base 3 "rank_sends" (spRankF K) := by
  refine fn_def F hm c_rank_sends (fun vs H Q E h => ?_) (fun _ _ _ _ _ _ us hl => match us, hl with | [_, _], _ => rfl) (fun cdv A outer s H vs Q E hr h => ?_)
  · obtain ⟨k, cv, a, xs, qs, E, B, S, rfl, _⟩ := h
    rfl
  · obtain ⟨k, cv, a, xs, qs, E, B, S, rfl, ha, hq, hS, iS, iq, hn, E0, E9, B9, k'⟩ := h
    have nd := c_rank_sends.nd
    refine ⟨_, (pss_cons (ps_set (i := 2) nd rfl (by first | exact Or.inl rfl | exact Or.inr rfl) (pe_lst pa_nil))
      (pss_cons (ps_set (i := 3) nd rfl (by first | exact Or.inl rfl | exact Or.inr rfl) (pv 0))
      (pss_cons (ps_for PassesOwn.never rfl (pi_seq (pv 1)) (pg_name (i := 4) nd rfl (by first | exact Or.inl rfl | exact Or.inr rfl))
        (pss_cons (ps_set (i := 5) nd rfl (by first | exact Or.inl rfl | exact Or.inr rfl) (pe_fn Fsmallest (hr.mono (by decide)) (pa_cons (pv 4) (pa_cons (pv 3) pa_nil))))
        (pss_cons (ps_expr (pe_bm PySem.F.plainAttrs_list PySem.F.slot_list_append PySem.F.type_list_append mt_append (pv 2) (pa_cons (pv 5) pa_nil)))
        (pss_one (ps_set (i := 3) nd rfl (by first | exact Or.inl rfl | exact Or.inr rfl) (pe_fn Fminus (hr.mono (by decide)) (pa_cons (pv 3) (pa_cons (pv 5) pa_nil))))))))
      (pss_one (ps_ret (pv 2)))))), ?_⟩
    show (_ : TS) _ [some _, some _, none, none, none, none] _
    try dsimp only [cxOf, Cx.nox]
    have lx := hq.1
    have zz : ∀ {q : Rat}, In E B q → Sz 4000 q := fun i => (i.sz E0 E9 B9).mono (by decide)
    walk_at "go"
    rename_i c hc
    refine r_forQ (xs := xs) rfl (sqbQ ha) (kp0 (Ext.refl.new hc)) (fun i σ' H' => ∃ (acc : List V) (rv : V) (u4 u5 : Option V), σ' = [some cv, some (V.ref a), some (V.ref c), some rv, u4, u5] ∧ Ext [] H H' ∧ H' c = some (.lst acc) ∧ Ams K H' acc (rankQ S (qs.take i)) ∧ Am K H' rv (restR S (qs.take i)))
      ⟨[], _, _, _, rfl, Ext.refl.new hc, upd_same, Ams.nil, hS.x0 (Ext.refl.new hc)⟩ ?_ ?_ ?_
    · rintro i σ' H' hi ⟨_, _, _, _, rfl, e, _⟩
      exact kp0 e
    · rintro i y σ' H1 hy ⟨acc, rv, u4, u5, rfl, e1, h1, ams, ar⟩
      obtain ⟨q, hq1, aq⟩ := hq.at_ hy
      have hm := List.mem_of_getElem? hq1
      have ir := restR_in (l := qs.take i) iS fun x hx => iq x (List.mem_of_mem_take hx)
      have hl1 := ams.1
      rw [rankQ_len, List.length_take] at hl1
      walk_at "go"
      refine k_min2 (aq.x0 e1) ar (zz (iq q hm)) (zz ir) fun v2 H2 n2 a2 => ?_
      have h2 := n2 _ _ h1 fun z => nomatch z
      walk_at "go"
      refine ⟨ty_lst h2, ?_⟩
      walk_at "go"
      try refine r_app h2 (by omega) ?_
      have ams2 := ams.x0 n2
      have ar2 := ar.x0 n2
      have h3 : upd H2 c (.lst (acc ++ [v2])) c = some (.lst (acc ++ [v2])) := upd_same
      have ams3 := (ams2.w (l' := acc ++ [v2]) h2).app (Ams.cons (a2.w h2) Ams.nil)
      have ar3 := ar2.w (l' := acc ++ [v2]) h2
      have a3 := a2.w (l' := acc ++ [v2]) h2
      have e3 : Ext [] H (upd H2 c (.lst (acc ++ [v2]))) := (e1.trans n2).own hc
      generalize upd H2 c (.lst (acc ++ [v2])) = H3 at *
      walk_at "go"
      refine k_minus ar3 a3 (lmin_le2 _ _) (zz ir) (zz ((iq q hm).lmin ir)) fun v4 H4 n4 a4 => ?_
      walk_at "go"
      refine ⟨_, _, _, _, rfl, e3.trans n4, n4 _ _ h3 (fun z => nomatch z), ?_, ?_⟩
      · rw [take_snoc hq1, rank_snoc]
        exact ams3.x0 n4
      · rw [take_snoc hq1, rest_snoc]
        exact a4
    · rintro σ' H1 ⟨acc, rv, u4, u5, rfl, e1, h1, ams, ar⟩
      rw [lx, List.take_length] at ams
      walk_at "go"
      exact k' c acc H1 hc h1 ams e1
end
end Yk

set_option maxHeartbeats 4000000
namespace Yk
open PySem PySem.Spec PyProof.Rows L2

/-! What is drawn. -/
def DD : Nat := 60 * 30 ^ 11
theorem DD0 : 0 < DD := by decide
theorem DD9 : DD ≤ 2 ^ 70 := by decide +kernel
theorem zD {M : Nat} {q : Rat} (h : In DD M q) (hM : M ≤ 2 ^ 60) : Sz 4000 q := (h.sz DD0 DD9 hM).mono (by decide)
theorem dvD {i : Nat} (h : i ≤ 11) : 60 * 30 ^ i ∣ DD := Nat.mul_dvd_mul_left 60 (Nat.pow_dvd_pow 30 h)
theorem rest_sub {p q : Rat} (h : q ≤ p) : restQ p q = p - q := by
  unfold restQ
  split
  · grind
  · rfl
theorem part_half (q : Rat) : PartQ q (q * mkRat ((1 : Nat) : Int) 2) := ⟨1, 2, by decide, by decide, by decide, rfl⟩
theorem of_nats {K : PySem.W.Frag} {H : Hp} {b : Bag} {l : Addr} {ns : List Nat} {Q : VK} {E : XK} (hb : BagAt K H b) (hl : SqL K H l (iv ns)) (hne : b.a ≠ l) (h0 : 0 < ns.length) (h4 : ns.length ≤ 4000) (k : ∀ (x : Nat) H', x ∈ ns → BagAt K H' b → Ext [b.a] H H' → Q (.int (x : Int)) H') : spOf K [.ref b.a, .ref l] H Q E := by
  refine of_intN (ns := ns.map fun n : Nat => (n : Int)) hb (by rw [List.map_map]; exact hl) hne (by rw [List.length_map]; exact h0) (by rw [List.length_map]; exact h4) fun x H' hx b1 n1 => ?_
  obtain ⟨n, hn, rfl⟩ := List.mem_map.mp hx
  exact k n H' hn b1 n1
theorem range_map {α : Type} (l : List α) (d : α) : (List.range l.length).map (fun k => l.getD k d) = l := by
  apply List.ext_getElem?
  intro k
  rw [List.getElem?_map]
  by_cases h : k < l.length
  · rw [List.getElem?_range h, List.getElem?_eq_getElem h]
    simp [List.getD_eq_getElem?_getD, h]
  · rw [List.getElem?_eq_none (by simp; omega), List.getElem?_eq_none (by omega)]
    rfl
theorem ix_perm {ys : List V} {n : Nat} (p : ys.Perm (iv (List.range n))) : ∃ ks : List Nat, ys = iv ks ∧ ks.Perm (List.range n) := by
  have h0 : Rel (fun v (k : Nat) => v = V.int (k : Int)) (iv (List.range n)) (List.range n) := ⟨iv_len _, fun i v k hv hk' => by
    obtain ⟨k2, e1, e2⟩ := iv_get hv
    rw [hk'] at e1
    cases e1
    exact e2⟩
  obtain ⟨ks, r, pk⟩ := Rel.perm p h0
  refine ⟨ks, ?_, pk⟩
  apply List.ext_getElem?
  intro i
  unfold iv
  rw [List.getElem?_map]
  cases e : ys[i]? with
  | none =>
    have h1 : ys.length ≤ i := by simpa using e
    rw [r.1] at h1
    rw [List.getElem?_eq_none h1]
    rfl
  | some v =>
    obtain ⟨k, hk', rfl⟩ := r.at_ e
    rw [hk']
    rfl
theorem rg_iv (n : Nat) : rgV 0 (n : Int) = iv (List.range n) := by
  unfold rgV iv
  rw [show ((n : Int) - 0).toNat = n by omega]
  exact List.map_congr_left fun k _ => by rw [Int.zero_add]
def fA (ws : List Nat) (ps qs : List Rat) (k : Nat) : Fl := ⟨ws.getD k 1, ps.getD k 0, qs.getD k 0⟩
theorem getD_some {α : Type} {l : List α} {k : Nat} {d : α} (h : k < l.length) : l[k]? = some (l.getD k d) := by
  rw [List.getD_eq_getElem?_getD, List.getElem?_eq_getElem h]
  rfl
theorem iv_at {ws : List Nat} {k : Nat} (h : k < ws.length) : (iv ws)[k]? = some (.int ((ws.getD k 1 : Nat) : Int)) := by
  unfold iv
  rw [List.getElem?_map, getD_some (d := 1) h]
  rfl
theorem map_perm {α β : Type} (l : List α) (d : α) {ks : List Nat} (p : ks.Perm (List.range l.length)) (g : α → β) : (ks.map fun k => g (l.getD k d)).Perm (l.map g) := by
  have h := p.map fun k => g (l.getD k d)
  have e : (List.range l.length).map (fun k => g (l.getD k d)) = l.map g := by
    have := congrArg (List.map g) (range_map l d)
    rw [List.map_map] at this
    exact this
  rwa [e] at h
theorem wv_snoc (fs : List Fl) (f : Fl) : wv (fs ++ [f]) = wv fs ++ [.int (f.w : Int)] := by unfold wv; rw [List.map_append]; rfl
/-- three lists of one's own -/
structure Apart3 (b : Bag) (x y z : Addr) : Prop where
  xb : x ≠ b.a
  yb : y ≠ b.a
  zb : z ≠ b.a
  xy : x ≠ y
  xz : x ≠ z
  yz : y ≠ z
theorem freeB {K : PySem.W.Frag} {H H' : Hp} {b : Bag} {c : Addr} (e : Ext [b.a] H H') (hb : BagAt K H' b) (h : H' c = none) : H c = none := by
  cases q : H c with
  | none => rfl
  | some o =>
    have : c ∉ [b.a] := fun z => by
      obtain ⟨l, hl⟩ := hb.lst
      rw [List.mem_singleton.mp z, hl] at h
      cases h
    rw [e _ _ q this] at h
    cases h
theorem bgN {K : PySem.W.Frag} {H : Hp} {b : Bag} {c : Addr} (hb : BagAt K H b) (h : H c = none) : c ≠ b.a := fun z => by
  obtain ⟨l, hl⟩ := hb.lst
  rw [z, hl] at h
  cases h
/-- what stands while the shares are drawn -/
structure DrA (K : PySem.W.Frag) (H0 H : Hp) (b : Bag) (mv lv : V) (S : Rat) (x y z : Addr) (i : Nat) (xs : List V) (ws : List Nat) (ps : List Rat) (l : Rat) : Prop where
  bag : BagAt K H b
  ext : Ext [b.a] H0 H
  hx : H x = some (.lst (iv ws))
  hy : H y = some (.lst xs)
  hz : H z = some (.lst [])
  most : Am K H mv S
  left : Am K H lv l
  il : In (60 * 30 ^ i) 21 l
  ams : Ams K H xs ps
  lw : ws.length = i
  lp : ps.length = i
  w0 : ∀ n ∈ ws, 0 < n ∧ n ≤ 12
  ip : ∀ p ∈ ps, In (60 * 30 ^ 10) 21 p
  sum : sumQ ps + l = S
/-- what stands while the limits are drawn -/
structure DrC (K : PySem.W.Frag) (H0 H : Hp) (b : Bag) (mv : V) (S : Rat) (x y z : Addr) (i : Nat) (xs : List V) (ws : List Nat) (ps : List Rat) (ys : List V) (qs : List Rat) : Prop where
  bag : BagAt K H b
  ext : Ext [b.a] H0 H
  hx : H x = some (.lst (iv ws))
  hy : H y = some (.lst xs)
  hz : H z = some (.lst ys)
  most : Am K H mv S
  ams : Ams K H xs ps
  ams2 : Ams K H ys qs
  lq : qs.length = i
  iq : ∀ q ∈ qs, In DD 1000000 q
section
variable {P : Program} {w : World} {K : PySem.W.Frag} {mg : Str → Option Value} {base : Heap} {f : Addr} {fd : FuncData}
def spDrawn (K : PySem.W.Frag) : Sp := fun vs H Q _ => ∃ (b : Bag), vs = [.ref b.a] ∧ BagAt K H b ∧
  ∀ (t x y z : Addr) (mv : V) (xs ys : List V) (fs : List Fl) (S : Rat) H', SqT K H' t [mv, .ref x, .ref y, .ref z] → H' x = some (.lst (wv fs)) → H' y = some (.lst xs) → H' z = some (.lst ys) → Apart3 b x y z → H x = none → H y = none → H z = none → Am K H' mv S → Ams K H' xs (fs.map (·.p)) → Ams K H' ys (fs.map (·.q)) →
    FlOk DD (DD * 27720) 1000000 10000000 fs S → 0 < fs.length → sumQ (fs.map (·.p)) ≤ S → BagAt K H' b → Ext [b.a] H H' → Q (.ref t) H'
abbrev s_law_drawn : Stmt := top 48
theorem c_law_drawn : FnScope ["_law_bag_here", "_law_most", "_law_count", "_law_left", "_law_weights_of", "_law_shares_of", "_law_limits_of", "_law_k", "_law_part_here", "_law_menu", "_law_order"] ["_law_bag_here"] (defScope s_law_drawn) := ⟨rfl, rfl, rfl, by decide +kernel, rfl, by decide +kernel, by decide +kernel⟩
theorem f_law_drawn (F : FunD K "_law_drawn" "_law_drawn" (defArgs s_law_drawn) (defBody s_law_drawn) (defScope s_law_drawn) [] [] f fd) (hm : mg "_law_drawn" = some (.ref f)) (T : Bt mg) (F_law_of : Fn P w K mg base 2 "_law_of" (spOf K)) (F_law_sum : Fn P w K mg base 2 "_law_sum" (sp2 (fun _ _ => True) (· + ·) K)) (F_law_rest : Fn P w K mg base 2 "_law_rest" (sp2 (fun _ _ => True) restQ K)) (F_law_scaled : Fn P w K mg base 2 "_law_scaled" (spScaled K)) (F_law_some : Fn P w K mg base 3 "_law_some" (spSome K)) (F_law_part : Fn P w K mg base 3 "_law_part" (spPart K)) (F_law_mixed : Fn P w K mg base 2 "_law_mixed" (spMixed K)) : Fn P w K mg base 4 "_law_drawn" (spDrawn K) := by
  refine fn_def F hm c_law_drawn (fun vs H Q E h => ?_) (fun _ _ _ _ _ _ us hl => match us, hl with | [_], _ => rfl) (fun cdv A outer s H vs Q E hr h => ?_)
  · obtain ⟨b, rfl, _⟩ := h
    rfl
  · obtain ⟨b, rfl, hb, k⟩ := h
    have nd := c_law_drawn.nd
    refine ⟨_, (pss_cons (ps_set (i := 1) nd rfl (by first | exact Or.inl rfl | exact Or.inr rfl) (pe_fn F_law_sum (hr.mono (by decide)) (pa_cons (pe_fn F_law_some (hr.mono (by decide)) (pa_cons (pv 0) (pa_cons pe_int pa_nil))) (pa_cons (pe_fn F_law_of (hr.mono (by decide)) (pa_cons (pv 0) (pa_cons (pe_lst (pa_cons (pe_tup (pa_cons pe_int (pa_cons pe_int pa_nil))) (pa_cons (pe_tup (pa_cons pe_int (pa_cons pe_int pa_nil))) (pa_cons (pe_tup (pa_cons pe_int (pa_cons pe_int pa_nil))) pa_nil)))) pa_nil))) pa_nil))))
      (pss_mid (ps_asg (pe_tup (pa_cons (pe_fn F_law_of (hr.mono (by decide)) (pa_cons (pv 0) (pa_cons (pe_lst (pa_cons pe_int (pa_cons pe_int (pa_cons pe_int (pa_cons pe_int (pa_cons pe_int (pa_cons pe_int (pa_cons pe_int pa_nil)))))))) pa_nil))) (pa_cons (pv 1) (pa_cons (pe_lst pa_nil) (pa_cons (pe_lst pa_nil) (pa_cons (pe_lst pa_nil) pa_nil)))))) (pg_tup rfl (pgs_cons (pg_name (i := 2) nd rfl (by first | exact Or.inl rfl | exact Or.inr rfl)) (pgs_cons (pg_name (i := 3) nd rfl (by first | exact Or.inl rfl | exact Or.inr rfl)) (pgs_cons (pg_name (i := 4) nd rfl (by first | exact Or.inl rfl | exact Or.inr rfl)) (pgs_cons (pg_name (i := 5) nd rfl (by first | exact Or.inl rfl | exact Or.inr rfl)) (pgs_cons (pg_name (i := 6) nd rfl (by first | exact Or.inl rfl | exact Or.inr rfl)) pgs_nil)))))))
      (pss_mid (ps_for PassesOwn.never rfl (pi_range1 rfl T.range (pa_cons (pv 2) pa_nil)) (pg_name (i := 7) nd rfl (by first | exact Or.inl rfl | exact Or.inr rfl))
        (pss_cons (ps_set (i := 8) nd rfl (by first | exact Or.inl rfl | exact Or.inr rfl) (pe_fn F_law_part (hr.mono (by decide)) (pa_cons (pv 0) (pa_cons (pv 3) pa_nil))))
        (pss_mid (ps_if (PW.pt (pw_and (pt_cmpR op_lt (pv 7) (pe_op op_sub (pv 2) pe_int) (nomark _)) (pw_and1 (pt_cmpR (op_eqD hr.units) (pv 8) (pv 3) (nomark _)))))
          (pss_one (ps_set (i := 8) nd rfl (by first | exact Or.inl rfl | exact Or.inr rfl) (pe_fn F_law_scaled (hr.mono (by decide)) (pa_cons (pv 8) (pa_cons pe_int (pa_cons pe_int pa_nil))))))
          pss_nil)
        (pss_cons (ps_set (i := 3) nd rfl (by first | exact Or.inl rfl | exact Or.inr rfl) (pe_fn F_law_rest (hr.mono (by decide)) (pa_cons (pv 3) (pa_cons (pv 8) pa_nil))))
        (pss_cons (ps_expr (pe_bm PySem.F.plainAttrs_list PySem.F.slot_list_append PySem.F.type_list_append mt_append (pv 4) (pa_cons (pe_fn F_law_of (hr.mono (by decide)) (pa_cons (pv 0) (pa_cons (pe_lst (pa_cons pe_int (pa_cons pe_int (pa_cons pe_int (pa_cons pe_int (pa_cons pe_int pa_nil)))))) pa_nil))) pa_nil)))
        (pss_one (ps_expr (pe_bm PySem.F.plainAttrs_list PySem.F.slot_list_append PySem.F.type_list_append mt_append (pv 5) (pa_cons (pv 8) pa_nil)))))))))
      (pss_mid (ps_for PassesOwn.never rfl (pi_list (pv 5)) (pg_name (i := 8) nd rfl (by first | exact Or.inl rfl | exact Or.inr rfl))
        (pss_cons (ps_set (i := 9) nd rfl (by first | exact Or.inl rfl | exact Or.inr rfl) (pe_lst (pa_cons (pv 8) (pa_cons (pe_tup (pa_cons pe_int (pa_cons pe_int pa_nil))) (pa_cons (pe_fn F_law_part (hr.mono (by decide)) (pa_cons (pv 0) (pa_cons (pv 8) pa_nil))) (pa_cons (pe_fn F_law_sum (hr.mono (by decide)) (pa_cons (pv 8) (pa_cons (pe_fn F_law_some (hr.mono (by decide)) (pa_cons (pv 0) (pa_cons pe_int pa_nil))) pa_nil))) (pa_cons (pe_fn F_law_some (hr.mono (by decide)) (pa_cons (pv 0) (pa_cons pe_int pa_nil))) (pa_cons (pe_tup (pa_cons pe_int (pa_cons pe_int pa_nil))) pa_nil))))))))
        (pss_one (ps_expr (pe_bm PySem.F.plainAttrs_list PySem.F.slot_list_append PySem.F.type_list_append mt_append (pv 6) (pa_cons (pe_fn F_law_of (hr.mono (by decide)) (pa_cons (pv 0) (pa_cons (pe_op op_cat (pv 9) (pe_lst (pa_cons (pe_fn F_law_sum (hr.mono (by decide)) (pa_cons (pv 8) (pa_cons (pe_tup (pa_cons pe_int (pa_cons pe_int pa_nil))) pa_nil))) (pa_cons (pe_fn F_law_sum (hr.mono (by decide)) (pa_cons (pv 8) (pa_cons (pe_fn F_law_scaled (hr.mono (by decide)) (pa_cons (pv 1) (pa_cons pe_int (pa_cons pe_int pa_nil)))) pa_nil))) pa_nil)))) pa_nil))) pa_nil))))))
      (pss_mid (ps_set (i := 10) nd rfl (by first | exact Or.inl rfl | exact Or.inr rfl) (pe_fn F_law_mixed (hr.mono (by decide)) (pa_cons (pv 0) (pa_cons (pe_listRg rfl (by rfl) T.list (prg_1 (by rfl) T.range (pv 2))) pa_nil))))
      (pss_one (ps_ret (pe_tup (pa_cons (pv 1) (pa_cons (pe_lc (own := [("_law_k", 7)]) (g := gName 7) rfl nd (pi_list (pv 10)) (blkOk_by (N := ["_law_bag_here", "_law_most", "_law_count", "_law_left", "_law_weights_of", "_law_shares_of", "_law_limits_of", "_law_k", "_law_part_here", "_law_menu", "_law_order"]) (sc := defScope s_law_drawn) (by decide +kernel)) (fun _ _ _ _ _ => pg_name (i := 7) nd rfl (Or.inl rfl)) (fun _ _ _ _ _ => pts_nil) (fun _ _ _ _ _ => (pe_ix ix_list (pv 4) (pv 7) (fun _ _ => rfl) : PE _ _ (tOp (rIxL K) _ _)))) (pa_cons (pe_lc (own := [("_law_k", 7)]) (g := gName 7) rfl nd (pi_list (pv 10)) (blkOk_by (N := ["_law_bag_here", "_law_most", "_law_count", "_law_left", "_law_weights_of", "_law_shares_of", "_law_limits_of", "_law_k", "_law_part_here", "_law_menu", "_law_order"]) (sc := defScope s_law_drawn) (by decide +kernel)) (fun _ _ _ _ _ => pg_name (i := 7) nd rfl (Or.inl rfl)) (fun _ _ _ _ _ => pts_nil) (fun _ _ _ _ _ => (pe_ix ix_list (pv 5) (pv 7) (fun _ _ => rfl) : PE _ _ (tOp (rIxL K) _ _)))) (pa_cons (pe_lc (own := [("_law_k", 7)]) (g := gName 7) rfl nd (pi_list (pv 10)) (blkOk_by (N := ["_law_bag_here", "_law_most", "_law_count", "_law_left", "_law_weights_of", "_law_shares_of", "_law_limits_of", "_law_k", "_law_part_here", "_law_menu", "_law_order"]) (sc := defScope s_law_drawn) (by decide +kernel)) (fun _ _ _ _ _ => pg_name (i := 7) nd rfl (Or.inl rfl)) (fun _ _ _ _ _ => pts_nil) (fun _ _ _ _ _ => (pe_ix ix_list (pv 6) (pv 7) (fun _ _ => rfl) : PE _ _ (tOp (rIxL K) _ _)))) pa_nil)))))))))))), ?_⟩
    show (_ : TS) _ [some _, none, none, none, none, none, none, none, none, none, none] _
    try dsimp only [cxOf, Cx.nox]
    walk_at "go"
    refine ⟨b, 20, rfl, hb, by decide, fun v1 q1 H1 a1 i1 b1 n1 => ?_⟩
    walk_at "go"
    rename_i p1 h1 p2 h2 p3 h3 p4 h4
    have hbn : b.a ≠ p4 := BagAt.ne (b1.x0 (by walk_at "ext")) h4
    generalize hG : upd _ p4 _ = H2
    have e2 : Ext [] H1 H2 := by rw [← hG]; walk_at "ext"
    have hl : SqL K H2 p4 [.ref p1, .ref p2, .ref p3] := by rw [← hG]; exact lstS
    have am : Ams K H2 [.ref p1, .ref p2, .ref p3] [mkRat ((1 : Nat) : Int) 1, mkRat ((1 : Nat) : Int) 12, mkRat ((1 : Nat) : Int) 2] := by
      rw [← hG]
      refine Ams.cons ⟨_, rfl, ?_⟩ (Ams.cons ⟨_, rfl, ?_⟩ (Ams.cons ⟨_, rfl, ?_⟩ Ams.nil))
      · show SqT K _ p1 [.int 1, .int 1]
        walk_at "sq"
      · show SqT K _ p2 [.int 1, .int 12]
        walk_at "sq"
      · show SqT K _ p3 [.int 1, .int 2]
        walk_at "sq"
    have b2 := b1.x0 e2
    refine of_am b2 hl hbn am (by decide) (by show 3 ≤ 4000; decide) fun v2 q2 H3 hq2 a2 b3 n3 => ?_
    have i2 : In 60 1 q2 := by
      simp only [List.mem_cons, List.not_mem_nil, or_false] at hq2
      rcases hq2 with rfl | rfl | rfl
      · exact In.frac (by decide) (by decide) (by decide)
      · exact In.frac (by decide) (by decide) (by decide)
      · exact In.frac (by decide) (by decide) (by decide)
    have iS : In 60 21 (q1 + q2) := (i1.up (by decide)).add i2
    have e13 : Ext [b.a] H1 H3 := e2.of0.trans n3
    walk_at "go"
    refine k_two (a1.b b1 e13) a2 ((i1.sz (j := 5) (k := 5) (by decide) (by decide) (by decide)).mono (by decide)) ((i2.sz (j := 6) (k := 5) (by decide) (by decide) (by decide)).mono (by decide)) i1.nn i2.nn trivial fun mv H4 n4 a4 => ?_
    have b4 := b3.x0 n4
    have e04 : Ext [b.a] H H4 := n1.trans (e13.trans n4.of0)
    walk_at "go"
    refine r_mid (fun σ' H' => ∃ (n : Nat) (x y z : Addr), σ' = [some (V.ref b.a), some mv, some (.int (n : Int)), some mv, some (.ref x), some (.ref y), some (.ref z), none, none, none, none] ∧ BagAt K H' b ∧ Ext [b.a] H4 H' ∧ 0 < n ∧ n ≤ 10 ∧
      H' x = some (.lst []) ∧ H' y = some (.lst []) ∧ H' z = some (.lst []) ∧ Apart3 b x y z ∧ H x = none ∧ H y = none ∧ H z = none) ?_ ?_
    · walk_at "go"
      rename_i p hp
      refine of_nats (ns := [1, 2, 2, 3, 4, 5, 10]) (b4.new hp) lstS (b4.ne hp) (by decide) (show 7 ≤ 4000 by decide) fun n H5 hn b5 n5 => ?_
      have e45 : Ext [b.a] H4 H5 := Ext.trans (Ext.refl.new hp) n5
      have hn10 : 0 < n ∧ n ≤ 10 := by
        simp only [List.mem_cons, List.not_mem_nil, or_false] at hn
        rcases hn with h | h | h | h | h | h | h <;> subst h <;> exact ⟨by decide, by decide⟩
      walk_at "go"
      rename_i x hx y hy z hz t ht
      have m6 := (((Ext.refl (S := [b.a]) (H := H5)).new (o := .lst []) hx).new (o := .lst []) hy).new (o := .lst []) hz |>.new (o := .tup [V.int n, mv, V.ref x, V.ref y, V.ref z]) ht
      have m60 := ((((Ext.refl (S := []) (H := H5)).new (o := .lst []) hx).new (o := .lst []) hy).new (o := .lst []) hz).new (o := .tup [V.int n, mv, V.ref x, V.ref y, V.ref z]) ht
      have hy5 : H5 y = none := by rw [upd_ne (fun q => by rw [q, upd_same] at hy; cases hy)] at hy; exact hy
      have nxy : x ≠ y := fun q => by rw [q, upd_same] at hy; cases hy
      have nyz : y ≠ z := fun q => by rw [q, upd_same] at hz; cases hz
      have hz1 : upd H5 x (.lst []) z = none := by rw [upd_ne nyz.symm] at hz; exact hz
      have nxz : x ≠ z := fun q => by rw [q, upd_same] at hz1; cases hz1
      have hz5 : H5 z = none := by rw [upd_ne nxz.symm] at hz1; exact hz1
      have e05 := e04.trans e45
      have gx : upd (upd (upd H5 x (.lst [])) y (.lst [])) z (.lst []) x = some (.lst []) := by rw [upd_ne nxz, upd_ne nxy, upd_same]
      have gy : upd (upd (upd H5 x (.lst [])) y (.lst [])) z (.lst []) y = some (.lst []) := by rw [upd_ne nyz, upd_same]
      have gz : upd (upd (upd H5 x (.lst [])) y (.lst [])) z (.lst []) z = some (.lst []) := upd_same
      refine ⟨n, x, y, z, rfl, b5.x0 m60, e45.trans m6, hn10.1, hn10.2, by rw [upd_ne (ne_of_none gx ht)]; exact gx, by rw [upd_ne (ne_of_none gy ht)]; exact gy, by rw [upd_ne (ne_of_none gz ht)]; exact gz, ⟨bgN b5 hx, bgN b5 hy5, bgN b5 hz5, nxy, nxz, nyz⟩, freeB e05 b5 hx, freeB e05 b5 hy5, freeB e05 b5 hz5⟩
    · rintro σ' H5 ⟨n, x, y, z, rfl, b5, e45, n0, n10, hx5, hy5, hz5, A3, hx0, hy0, hz0⟩
      refine r_mid (fun σ' H' => ∃ (lv : V) (u7 u8 : Option V) (xs : List V) (ws : List Nat) (ps : List Rat) (l : Rat), σ' = [some (V.ref b.a), some mv, some (.int (n : Int)), some lv, some (.ref x), some (.ref y), some (.ref z), u7, u8, none, none] ∧ DrA K H H' b mv lv (q1 + q2) x y z n xs ws ps l) ?_ ?_
      · walk_at "go"
        refine r_for ?_
        walk_at "go"
        refine ⟨_, rfl, by omega, by omega, ?_⟩
        refine r_loopR (fun i σ' H' => ∃ (lv : V) (u7 u8 : Option V) (xs : List V) (ws : List Nat) (ps : List Rat) (l : Rat), σ' = [some (V.ref b.a), some mv, some (.int (n : Int)), some lv, some (.ref x), some (.ref y), some (.ref z), u7, u8, none, none] ∧ DrA K H H' b mv lv (q1 + q2) x y z i xs ws ps l)
          ⟨_, _, _, [], [], [], q1 + q2, rfl, ⟨b5, e04.trans e45, hx5, hy5, hz5, a4.b b4 e45, a4.b b4 e45, iS, Ams.nil, rfl, rfl, (fun _ z => absurd z (by simp)), (fun _ z => absurd z (by simp)), by show (0 : Rat) + _ = _; rw [Rat.zero_add]⟩⟩ ?_ ?_
        · rintro i σ' H6 hi ⟨lv, u7, u8, xs, ws, ps, l, rfl, R⟩
          have zl : Sz 4000 l := (R.il.up (dvD (by omega))).sz (j := 70) (k := 5) DD0 DD9 (by decide) |>.mono (by decide)
          walk_at "go"
          refine ⟨b, lv, l, rfl, R.bag, R.left, R.il.nn, zl, fun v7 r H7 a7 pq b7 n7 => ?_⟩
          have am7 := R.left.b R.bag n7
          have r01 := pq.le R.il.nn
          have hdr : ∀ {r' : Rat}, PartQ l r' → In (60 * 30 ^ (i + 1)) 21 r' := fun h => by
            have h1 := h.in_ R.il
            rwa [show 60 * 30 ^ i * 30 = 60 * 30 ^ (i + 1) by rw [Nat.pow_succ, Nat.mul_assoc]] at h1
          have zr : ∀ {r' : Rat}, PartQ l r' → Sz 4000 r' := fun h => ((hdr h).up (dvD (by omega))).sz (j := 70) (k := 5) DD0 DD9 (by decide) |>.mono (by decide)
          walk_at "go"
          refine r_mid (fun σ' H' => ∃ (v8 : V) (r' : Rat), σ' = [some (V.ref b.a), some mv, some (.int (n : Int)), some lv, some (.ref x), some (.ref y), some (.ref z), some (.int (0 + (i : Int))), some v8, none, none] ∧ Am K H' v8 r' ∧ PartQ l r' ∧ Ext [] H7 H') ?_ ?_
          · walk_at "go"
            refine r_dec (fun h1 => ?_) (fun h1 => ?_)
            · walk_at "go"
              refine eq_am a7 am7 ?_
              walk_at "go"
              refine r_dec (fun h2 => ?_) (fun h2 => ?_)
              · subst h2
                walk_at "go"
                refine ⟨v7, r, 1, 2, rfl, a7, R.il.nn, by decide, zl, Nat.lt_of_lt_of_le (by decide : 1 < 2 ^ 2) (Nat.pow_le_pow_right (by decide) (by decide)), Nat.lt_of_lt_of_le (by decide : 2 < 2 ^ 2) (Nat.pow_le_pow_right (by decide) (by decide)), fun v8 H8 n8 a8 => ?_⟩
                walk_at "go"
                exact ⟨v8, _, rfl, a8, part_half r, n8⟩
              · walk_at "go"
                exact ⟨v7, r, rfl, a7, pq, Ext.refl⟩
            · walk_at "go"
              exact ⟨v7, r, rfl, a7, pq, Ext.refl⟩
          · rintro σ' H8 ⟨v8, r', rfl, a8, pq', n8⟩
            have r01' := pq'.le R.il.nn
            walk_at "go"
            refine k_two (am7.x0 n8) a8 zl (zr pq') R.il.nn r01'.1 trivial fun v9 H9 n9 a9 => ?_
            rw [rest_sub r01'.2] at a9
            have b9 := (b7.x0 n8).x0 n9
            have e69 : Ext [b.a] H6 H9 := n7.trans ((n8.trans n9).of0)
            have hx9 := e69 _ _ R.hx (by simpa using A3.xb)
            have hy9 := e69 _ _ R.hy (by simpa using A3.yb)
            have hz9 := e69 _ _ R.hz (by simpa using A3.zb)
            have mo9 := R.most.b R.bag e69
            have ams9 := R.ams.b R.bag e69
            have lx := R.ams.1
            have lw := R.lw
            have lp := R.lp
            walk_at "go"
            refine ⟨ty_lst hx9, ?_⟩
            walk_at "go"
            rename_i p10 hp10
            refine of_nats (ns := [1, 1, 2, 3, 12]) (b9.new hp10) lstS (b9.ne hp10) (by decide) (show 5 ≤ 4000 by decide) fun wt H10 hwt b10 n10 => ?_
            have e910 : Ext [b.a] H9 H10 := Ext.trans (Ext.refl.new hp10) n10
            have hwt12 : 0 < wt ∧ wt ≤ 12 := by
              simp only [List.mem_cons, List.not_mem_nil, or_false] at hwt
              rcases hwt with h | h | h | h | h <;> subst h <;> exact ⟨by decide, by decide⟩
            have hx10 := e910 _ _ hx9 (by simpa using A3.xb)
            have hy10 := e910 _ _ hy9 (by simpa using A3.yb)
            have hz10 := e910 _ _ hz9 (by simpa using A3.zb)
            have mo10 := mo9.b b9 e910
            have ams10 := ams9.b b9 e910
            have a810 := (a8.x0 n9).b b9 e910
            have a910 := a9.b b9 e910
            walk_at "go"
            try refine r_app hx10 (by rw [iv_len]; omega) ?_
            have e11 : Ext [b.a] H (upd H10 x (.lst (iv ws ++ [.int (wt : Int)]))) := (R.ext.trans (e69.trans e910)).own hx0
            have b11 : BagAt K (upd H10 x (.lst (iv ws ++ [.int (wt : Int)]))) b := hb.own hx0 b10
            have hx11 : upd H10 x (.lst (iv ws ++ [.int (wt : Int)])) x = some (.lst (iv (ws ++ [wt]))) := by rw [iv_snoc]; exact upd_same
            have hy11 : upd H10 x (.lst (iv ws ++ [.int (wt : Int)])) y = some (.lst xs) := by rw [upd_ne A3.xy.symm]; exact hy10
            have hz11 : upd H10 x (.lst (iv ws ++ [.int (wt : Int)])) z = some (.lst []) := by rw [upd_ne A3.xz.symm]; exact hz10
            have mo11 := mo10.w (l' := iv ws ++ [.int (wt : Int)]) hx10
            have ams11 := ams10.w (l' := iv ws ++ [.int (wt : Int)]) hx10
            have a811 := a810.w (l' := iv ws ++ [.int (wt : Int)]) hx10
            have a911 := a910.w (l' := iv ws ++ [.int (wt : Int)]) hx10
            generalize upd H10 x (.lst (iv ws ++ [.int (wt : Int)])) = H11 at *
            walk_at "go"
            refine ⟨ty_lst hy11, ?_⟩
            walk_at "go"
            try refine r_app hy11 (by omega) ?_
            refine ⟨v9, _, _, xs ++ [v8], ws ++ [wt], ps ++ [r'], l - r', rfl, ⟨hb.own hy0 b11, e11.own hy0, ?_, upd_same, ?_, mo11.w hy11, a911.w hy11, ?_, (ams11.w hy11).app (Ams.cons (a811.w hy11) Ams.nil), by rw [List.length_append, lw]; rfl, by rw [List.length_append, lp]; rfl, ?_, ?_, ?_⟩⟩
            · rw [upd_ne A3.xy]; exact hx11
            · rw [upd_ne A3.yz.symm]; exact hz11
            · have h1 := (R.il.up (Nat.mul_dvd_mul_left 60 (Nat.pow_dvd_pow 30 (Nat.le_succ i)))).sub (hdr pq') r01'.2
              exact h1
            · intro m hm
              rcases List.mem_append.mp hm with h | h
              · exact R.w0 m h
              · rw [List.mem_singleton.mp h]; exact hwt12
            · intro m hm
              rcases List.mem_append.mp hm with h | h
              · exact R.ip m h
              · rw [List.mem_singleton.mp h]; exact (hdr pq').up (Nat.mul_dvd_mul_left 60 (Nat.pow_dvd_pow 30 (by omega)))
            · have hs := R.sum
              rw [sumQ_app, sumQ_cons]
              show sumQ ps + (r' + 0) + (l - r') = _
              grind
        · rintro σ' H6 ⟨lv, u7, u8, xs, ws, ps, l, rfl, R⟩
          rw [show ((n : Int)).toNat = n by omega] at R
          exact ⟨lv, u7, u8, xs, ws, ps, l, rfl, R⟩
      · clear e45 hx5 hy5 hz5 b5 H5
        rintro σ' H5 ⟨lv, u7, u8, xs, ws, ps, l, rfl, R⟩
        have lx := R.ams.1
        have lp := R.lp
        refine r_mid (fun σ' H' => ∃ (u7 u8 u9 : Option V) (ys : List V) (qs : List Rat), σ' = [some (V.ref b.a), some mv, some (.int (n : Int)), some lv, some (.ref x), some (.ref y), some (.ref z), u7, u8, u9, none] ∧ DrC K H H' b mv (q1 + q2) x y z n xs ws ps ys qs) ?_ ?_
        · walk_at "go"
          refine r_for ?_
          walk_at "go"
          refine ⟨y, rfl, ⟨_, .inl (.inl R.hy)⟩, ?_⟩
          refine r_loopL (xs := xs) (fun i σ' H' => ∃ (u7 u8 u9 : Option V) (ys : List V) (qs : List Rat), σ' = [some (V.ref b.a), some mv, some (.int (n : Int)), some lv, some (.ref x), some (.ref y), some (.ref z), u7, u8, u9, none] ∧ DrC K H H' b mv (q1 + q2) x y z i xs ws ps ys qs)
            ⟨_, _, _, [], [], rfl, ⟨R.bag, R.ext, R.hx, R.hy, R.hz, R.most, R.ams, Ams.nil, rfl, fun _ z => absurd z (by simp)⟩⟩ ?_ ?_ ?_
          · rintro i σ' H' hi ⟨_, _, _, _, _, rfl, Z⟩
            exact .inl (.inl Z.hy)
          · rintro i v σ' H6 hv ⟨u7, u8, u9, ys, qs, rfl, Z⟩
            obtain ⟨p, hp1, ap⟩ := Z.ams.at_ hv
            have ip := R.ip p (List.mem_of_getElem? hp1)
            have ipD : In DD 21 p := ip.up (dvD (by decide))
            have zp := zD ipD (by decide)
            have iSD : In DD 21 (q1 + q2) := iS.up (by decide)
            have ly := Z.ams2.1
            have lq := Z.lq
            have hil := (List.getElem?_eq_some_iff.mp hv).1
            walk_at "go"
            rename_i t1 ht1
            have m1 := (Ext.refl (S := []) (H := H6)).new (o := .tup [.int 0, .int 1]) ht1
            have z1 : Am K (upd H6 t1 (.tup [.int 0, .int 1])) (.ref t1) 0 := ⟨t1, rfl, tupS⟩
            have b1' := Z.bag.x0 m1
            have ap1 := ap.x0 m1
            generalize upd H6 t1 (.tup [.int 0, .int 1]) = H7 at *
            refine ⟨b, v, p, rfl, b1', ap1, ipD.nn, zp, fun v8 r H8 a8 pq b8 n8 => ?_⟩
            have ir : In DD 21 r := pq.in_ ip
            walk_at "go"
            refine ⟨b, 9, rfl, b8, by decide, fun v9 r9 H9 a9 i9 b9 n9 => ?_⟩
            have ap9 := (ap1.b b1' n8).b b8 n9
            have i9D : In DD 9 r9 := i9.up (by decide)
            walk_at "go"
            refine k_two ap9 a9 zp (zD i9D (by decide)) ipD.nn i9.nn trivial fun v10 H10 n10 a10 => ?_
            have b10 := b9.x0 n10
            walk_at "go"
            refine ⟨b, 20, rfl, b10, by decide, fun v11 r11 H11 a11 i11 b11 n11 => ?_⟩
            have i11D : In DD 20 r11 := i11.up (by decide)
            have e711 : Ext [b.a] H7 H11 := (n8.trans n9).trans (n10.of0.trans n11)
            have z11 := z1.b b1' e711
            have ap11 := ap1.b b1' e711
            have a811 := a8.b b8 (n9.trans (n10.of0.trans n11))
            have a1011 := a10.b b10 n11
            have e611 : Ext [b.a] H6 H11 := m1.of0.trans e711
            walk_at "go"
            rename_i t2 ht2 mn hmn
            have m12 := ((Ext.refl (S := []) (H := H11)).new (o := .tup [.int 1000000, .int 1]) ht2).new (o := .lst [v, .ref t1, v8, v10, v11, .ref t2]) hmn
            have hmn12 : upd (upd H11 t2 (.tup [.int 1000000, .int 1])) mn (.lst [v, .ref t1, v8, v10, v11, .ref t2]) mn = some (.lst [v, .ref t1, v8, v10, v11, .ref t2]) := upd_same
            have z2 : Am K (upd (upd H11 t2 (.tup [.int 1000000, .int 1])) mn (.lst [v, .ref t1, v8, v10, v11, .ref t2])) (.ref t2) ((1000000 : Nat) : Rat) := am_nat (by walk_at "sq")
            have b12 := b11.x0 m12
            have menu12 : Ams K (upd (upd H11 t2 (.tup [.int 1000000, .int 1])) mn (.lst [v, .ref t1, v8, v10, v11, .ref t2])) [v, .ref t1, v8, v10, v11, .ref t2] [p, 0, r, p + r9, r11, ((1000000 : Nat) : Rat)] :=
              Ams.cons (ap11.x0 m12) (Ams.cons (z11.x0 m12) (Ams.cons (a811.x0 m12) (Ams.cons (a1011.x0 m12) (Ams.cons (a11.x0 m12) (Ams.cons z2 Ams.nil)))))
            have e612 : Ext [b.a] H6 _ := e611.trans m12.of0
            generalize upd (upd H11 t2 (.tup [.int 1000000, .int 1])) mn (.lst [v, .ref t1, v8, v10, v11, .ref t2]) = H12 at *
            have hz12 := e612 _ _ Z.hz (by simpa using A3.zb)
            have ap12 := ap.b Z.bag e612
            have mo12 := Z.most.b Z.bag e612
            refine ⟨ty_lst hz12, ?_⟩
            walk_at "go"
            rename_i t3 ht3
            have m13 := (Ext.refl (S := []) (H := H12)).new (o := .tup [.int 1, .int 5]) ht3
            have z3 : Am K (upd H12 t3 (.tup [.int 1, .int 5])) (.ref t3) (mkRat ((1 : Nat) : Int) 5) := ⟨t3, rfl, tupS⟩
            generalize upd H12 t3 (.tup [.int 1, .int 5]) = H13 at *
            have i15 : In DD 1 (mkRat ((1 : Nat) : Int) 5) := In.frac (by decide) (by decide) (by decide)
            refine k_two (ap12.x0 m13) z3 zp (zD i15 (by decide)) ipD.nn i15.nn trivial fun v14 H14 n14 a14 => ?_
            have m1214 := m13.trans n14
            walk_at "go"
            refine ⟨mv, q1 + q2, 1, 3, rfl, mo12.x0 m1214, iS.nn, by decide, zD iSD (by decide), Nat.lt_of_lt_of_le (by decide : 1 < 2 ^ 2) (Nat.pow_le_pow_right (by decide) (by decide)), Nat.lt_of_lt_of_le (by decide : 3 < 2 ^ 2) (Nat.pow_le_pow_right (by decide) (by decide)), fun v15 H15 n15 a15 => ?_⟩
            have i3 : In DD 21 ((q1 + q2) * mkRat ((1 : Nat) : Int) 3) := (iS.mul (In.frac (D := 3) (M := 1) (n := 1) (d := 3) (by decide) (by decide) (by decide))).up (by decide)
            walk_at "go"
            refine k_two (ap12.x0 (m1214.trans n15)) a15 zp (zD i3 (by decide)) ipD.nn i3.nn trivial fun v16 H16 n16 a16 => ?_
            have m1216 := m1214.trans (n15.trans n16)
            walk_at "go"
            rename_i p17 hp17
            have m17 := (Ext.refl (S := []) (H := H16)).new (o := .lst [v14, v16]) hp17
            have h17 : upd H16 p17 (.lst [v14, v16]) p17 = some (.lst [v14, v16]) := upd_same
            have m1217 := m1216.trans m17
            have am2 : Ams K (upd H16 p17 (.lst [v14, v16])) [v14, v16] [p + mkRat ((1 : Nat) : Int) 5, p + (q1 + q2) * mkRat ((1 : Nat) : Int) 3] := Ams.cons (a14.x0 ((n15.trans n16).trans m17)) (Ams.cons (a16.x0 m17) Ams.nil)
            generalize upd H16 p17 (.lst [v14, v16]) = H17 at *
            refine ⟨mn, p17, _, _, rfl, rfl, m1217 _ _ hmn12 (fun z => nomatch z), h17, by show 6 + 2 ≤ _; decide, fun p18 hp18 => ?_⟩
            have hbn := BagAt.ne (b12.x0 m1217) hp18
            have am18 := (((menu12.x0 m1217).app am2).x0 ((Ext.refl (S := []) (H := H17)).new (o := .lst ([v, .ref t1, v8, v10, v11, .ref t2] ++ [v14, v16])) hp18))
            have m1218 := m1217.trans ((Ext.refl (S := []) (H := H17)).new (o := .lst ([v, .ref t1, v8, v10, v11, .ref t2] ++ [v14, v16])) hp18)
            walk_at "go"
            refine of_am (b12.x0 m1218) lstS hbn am18 (by show 0 < 8; decide) (by show 8 ≤ 4000; decide) fun v19 q H19 hq19 a19 b19 n19 => ?_
            have e1219 := m1218.of0.trans n19
            have e619 := e612.trans e1219
            have hz19 := e619 _ _ Z.hz (by simpa using A3.zb)
            have iq : In DD 1000000 q := by
              simp only [List.mem_append, List.mem_cons, List.not_mem_nil, or_false] at hq19
              rcases hq19 with (h | h | h | h | h | h) | h | h <;> subst h
              · exact ipD.most (by decide)
              · exact In.zero
              · exact ir.most (by decide)
              · exact (ipD.add i9D).most (by decide)
              · exact i11D.most (by decide)
              · exact In.nat (Nat.le_refl _)
              · exact (ipD.add i15).most (by decide)
              · exact (ipD.add i3).most (by decide)
            have ams19 := Z.ams.b Z.bag e619
            have ams29 := Z.ams2.b Z.bag e619
            have hx19 := e619 _ _ Z.hx (by simpa using A3.xb)
            have hy19 := e619 _ _ Z.hy (by simpa using A3.yb)
            have mo19 := Z.most.b Z.bag e619
            walk_at "go"
            try refine r_app hz19 (by omega) ?_
            refine ⟨_, _, _, ys ++ [v19], qs ++ [q], rfl, ⟨hb.own hz0 b19, (Z.ext.trans e619).own hz0, ?_, ?_, upd_same, mo19.w hz19, ams19.w hz19, (ams29.w hz19).app (Ams.cons (a19.w hz19) Ams.nil), by rw [List.length_append, lq]; rfl, ?_⟩⟩
            · rw [upd_ne A3.xz]; exact hx19
            · rw [upd_ne A3.yz]; exact hy19
            · intro m hm
              rcases List.mem_append.mp hm with h | h
              · exact Z.iq m h
              · rw [List.mem_singleton.mp h]; exact iq
          · rintro σ' H6 ⟨u7, u8, u9, ys, qs, rfl, Z⟩
            rw [lx, lp] at Z
            exact ⟨u7, u8, u9, ys, qs, rfl, Z⟩
        · rintro σ' H6 ⟨u7, u8, u9, ys, qs, rfl, Z⟩
          refine r_mid (fun σ' H' => ∃ (u7 u8 u9 : Option V) (c : Addr) (ks : List Nat), σ' = [some (V.ref b.a), some mv, some (.int (n : Int)), some lv, some (.ref x), some (.ref y), some (.ref z), u7, u8, u9, some (.ref c)] ∧ H' c = some (.lst (iv ks)) ∧ ks.Perm (List.range n) ∧ BagAt K H' b ∧ Ext [b.a] H6 H') ?_ ?_
          · walk_at "go"
            refine ⟨_, rfl, _, rfl, RgOk.of_le (by decide) (by omega) (by decide) (by omega), fun p hp => ?_⟩
            rw [rg_iv]
            walk_at "go"
            refine k_mixed (Z.bag.new hp) upd_same (BagAt.ne Z.bag hp).symm (by rw [iv_len, List.length_range]; omega) fun po ys' H7 pm hpo hys b7 n7 => ?_
            obtain ⟨ks, rfl, pk⟩ := ix_perm pm
            walk_at "go"
            exact ⟨_, _, _, po, ks, rfl, hys, pk, b7, Ext.trans (Ext.refl.new hp) n7⟩
          · rintro σ' H7 ⟨u7', u8', u9', c, ks, rfl, hc, pk, b7, e7⟩
            have lks := pk.length_eq
            rw [List.length_range] at lks
            have hx7 := e7 _ _ Z.hx (by simpa using A3.xb)
            have hy7 := e7 _ _ Z.hy (by simpa using A3.yb)
            have hz7 := e7 _ _ Z.hz (by simpa using A3.zb)
            have ams7 := Z.ams.b Z.bag e7
            have ams27 := Z.ams2.b Z.bag e7
            have mo7 := Z.most.b Z.bag e7
            have lw := R.lw
            have lq := Z.lq
            have ly := Z.ams2.1
            have kl : ∀ {j k : Nat}, ks[j]? = some k → k < n := fun h => List.mem_range.mp (pk.subset (List.mem_of_getElem? h))
            walk_at "go"
            refine ⟨c, rfl, ⟨_, .inl (.inl hc)⟩, fun D1 hD1 => ?_⟩
            refine r_lcL (xs := iv ks) (fun i H8 => H8 D1 = some (.lst (wv ((ks.take i).map (fA ws ps qs)))) ∧ Ext [] H7 H8) ⟨upd_same, Ext.refl.new hD1⟩ ?_ ?_ ?_
            · rintro i H8 hi ⟨_, n8⟩
              exact lst0 n8 (.inl (.inl hc))
            · rintro j y' H8 hy' ⟨h8, n8⟩
              obtain ⟨kk, hkk, rfl⟩ := iv_get hy'
              have klt := kl hkk
              have hj := (List.getElem?_eq_some_iff.mp hkk).1
              walk_at "go"
              refine ⟨rfl, ?_⟩
              walk_at "go"
              refine r_ixL (lst0 n8 (.inl (.inl hx7))) (at_n rfl (iv_at (by omega))) ?_
              refine ⟨_, h8, Nat.lt_of_le_of_lt (by unfold wv; rw [List.length_map, List.length_map, List.length_take]; omega : _ ≤ 4000) (by decide), ?_, n8.own hD1⟩
              rw [take_map' hkk, wv_snoc]
              exact upd_same
            · rintro H8 ⟨h8, n8⟩
              rw [iv_len, List.take_length] at h8
              walk_at "go"
              refine ⟨c, rfl, ⟨_, lst0 n8 (.inl (.inl hc))⟩, fun D2 hD2 => ?_⟩
              refine r_lcL (xs := iv ks) (fun i H9 => ∃ acc : List V, H9 D2 = some (.lst acc) ∧ Ams K H9 acc (((ks.take i).map (fA ws ps qs)).map (·.p)) ∧ Ext [] H8 H9) ⟨[], upd_same, Ams.nil, Ext.refl.new hD2⟩ ?_ ?_ ?_
              · rintro i H9 hi ⟨_, _, _, n9⟩
                exact lst0 (n8.trans n9) (.inl (.inl hc))
              · rintro j y' H9 hy' ⟨acc, h9, am9, n9⟩
                obtain ⟨kk, hkk, rfl⟩ := iv_get hy'
                have klt := kl hkk
                have hj := (List.getElem?_eq_some_iff.mp hkk).1
                have hv := List.getElem?_eq_getElem (show kk < xs.length by omega)
                generalize xs[kk]'(by omega) = v at hv
                have av := (ams7.2 kk v _ hv (getD_some (d := 0) (by omega))).x0 (n8.trans n9)
                have hl := am9.1
                rw [List.length_map, List.length_map, List.length_take] at hl
                walk_at "go"
                refine ⟨rfl, ?_⟩
                walk_at "go"
                refine r_ixL (lst0 (n8.trans n9) (.inl (.inl hy7))) (at_n rfl hv) ?_
                refine ⟨acc, h9, Nat.lt_of_le_of_lt (by omega : acc.length ≤ 4000) (by decide), acc ++ [v], upd_same, ?_, n9.own hD2⟩
                rw [take_map' hkk, List.map_append]
                exact (am9.w h9).app (Ams.cons (av.w h9) Ams.nil)
              · rintro H9 ⟨acc, h9, am9, n9⟩
                rw [iv_len, List.take_length] at am9
                have n79 := n8.trans n9
                walk_at "go"
                refine ⟨c, rfl, ⟨_, lst0 n79 (.inl (.inl hc))⟩, fun D3 hD3 => ?_⟩
                refine r_lcL (xs := iv ks) (fun i H10 => ∃ acc : List V, H10 D3 = some (.lst acc) ∧ Ams K H10 acc (((ks.take i).map (fA ws ps qs)).map (·.q)) ∧ Ext [] H9 H10) ⟨[], upd_same, Ams.nil, Ext.refl.new hD3⟩ ?_ ?_ ?_
                · rintro i H10 hi ⟨_, _, _, n10⟩
                  exact lst0 (n79.trans n10) (.inl (.inl hc))
                · rintro j y' H10 hy' ⟨acc3, h10, am10, n10⟩
                  obtain ⟨kk, hkk, rfl⟩ := iv_get hy'
                  have klt := kl hkk
                  have hj := (List.getElem?_eq_some_iff.mp hkk).1
                  have hv := List.getElem?_eq_getElem (show kk < ys.length by omega)
                  generalize ys[kk]'(by omega) = v at hv
                  have av := (ams27.2 kk v _ hv (getD_some (d := 0) (by omega))).x0 (n79.trans n10)
                  have hl := am10.1
                  rw [List.length_map, List.length_map, List.length_take] at hl
                  walk_at "go"
                  refine ⟨rfl, ?_⟩
                  walk_at "go"
                  refine r_ixL (lst0 (n79.trans n10) (.inl (.inl hz7))) (at_n rfl hv) ?_
                  refine ⟨acc3, h10, Nat.lt_of_le_of_lt (by omega : acc3.length ≤ 4000) (by decide), acc3 ++ [v], upd_same, ?_, n10.own hD3⟩
                  rw [take_map' hkk, List.map_append]
                  exact (am10.w h10).app (Ams.cons (av.w h10) Ams.nil)
                · rintro H10 ⟨acc3, h10, am10, n10⟩
                  rw [iv_len, List.take_length] at am10
                  have n710 := n79.trans n10
                  walk_at "go"
                  rename_i t ht
                  have m11 := (Ext.refl (S := []) (H := H10)).new (o := .tup [mv, .ref D1, .ref D2, .ref D3]) ht
                  have n711 := n710.trans m11
                  have b9 := b7.x0 n79
                  have b8 := b7.x0 n8
                  have e07 : Ext [b.a] H H7 := Z.ext.trans e7
                  have hD1' : H8 D1 = some (.lst (wv (ks.map (fA ws ps qs)))) := h8
                  have hD2' : H9 D2 = some (.lst acc) := h9
                  have n811 := (n9.trans n10).trans m11
                  have ndd : D1 ≠ D2 := ne_of_none h8 hD2
                  have nd13 : D1 ≠ D3 := ne_of_none (n9 _ _ h8 fun z => nomatch z) hD3
                  have nd23 : D2 ≠ D3 := ne_of_none h9 hD3
                  have A3' : Apart3 b D1 D2 D3 := ⟨bgN b7 hD1, bgN b8 hD2, bgN b9 hD3, ndd, nd13, nd23⟩
                  have sumP : sumQ ((ks.map (fA ws ps qs)).map (·.p)) = sumQ ps := by
                    have h := sumQ_perm (map_perm ps 0 (ks := ks) (by rw [lp]; exact pk) (fun q => q))
                    rw [List.map_id'] at h
                    rw [List.map_map]
                    exact h
                  have mem : ∀ f ∈ ks.map (fA ws ps qs), ∃ k, k < n ∧ f = fA ws ps qs k := fun f hf => by
                    obtain ⟨k, hk, rfl⟩ := List.mem_map.mp hf
                    exact ⟨k, List.mem_range.mp (pk.subset hk), rfl⟩
                  have hp : ∀ k, k < n → In (60 * 30 ^ 10) 21 (ps.getD k 0) := fun k hk => R.ip _ (List.mem_of_getElem? (getD_some (by omega)))
                  have hq : ∀ k, k < n → In DD 1000000 (qs.getD k 0) := fun k hk => Z.iq _ (List.mem_of_getElem? (getD_some (by omega)))
                  have hw : ∀ k, k < n → 0 < ws.getD k 1 ∧ ws.getD k 1 ≤ 12 := fun k hk => R.w0 _ (List.mem_of_getElem? (getD_some (by omega)))
                  have sumO : sumQ ((ks.map (fA ws ps qs)).map (·.own)) ≤ sumQ ((ks.map (fA ws ps qs)).map (·.p)) := sum_le_map fun f _ => lmin_le1 _ _
                  have hl0 := R.il.nn
                  have hsum := R.sum
                  refine k t D1 D2 D3 mv acc acc3 (ks.map (fA ws ps qs)) (q1 + q2) _ tupS (n811 _ _ hD1' fun z => nomatch z) ((n10.trans m11) _ _ hD2' fun z => nomatch z) (m11 _ _ h10 fun z => nomatch z) A3' (freeB e07 b7 hD1) (freeB (e07.trans n8.of0) b8 hD2) (freeB (e07.trans n79.of0) b9 hD3) (mo7.x0 n711) ((am9.x0 n10).x0 m11) (am10.x0 m11)
                    ⟨by rw [List.length_map]; omega, fun f hf => ?_, fun f hf => ?_, fun f hf => ?_, fun f hf => ?_, (iS.up (by decide)).most (by decide), ?_, DD0, Nat.dvd_refl _, by decide, by decide +kernel, by decide, by decide⟩ (by rw [List.length_map]; omega) ?_ (b7.x0 n711) (e07.trans n711.of0)
                  · obtain ⟨k, hk, rfl⟩ := mem f hf
                    exact (hw k hk).1
                  · obtain ⟨k, hk, rfl⟩ := mem f hf
                    exact (hw k hk).2
                  · obtain ⟨k, hk, rfl⟩ := mem f hf
                    exact ((hp k hk).up (dvD (by decide))).most (by decide)
                  · obtain ⟨k, hk, rfl⟩ := mem f hf
                    exact hq k hk
                  · rw [sumP] at sumO
                    grind
                  · rw [sumP]
                    grind
end
end Yk

set_option maxHeartbeats 4000000
namespace Yk
open PySem PySem.Spec PyProof.Rows L2

/-! The law's own checks. -/
section
variable {P : Program} {w : World} {K : PySem.W.Frag} {mg : Str → Option Value} {base : Heap} {f : Addr} {fd : FuncData}
theorem rest_max {p q : Rat} : restQ p q = if p ≤ q then 0 else p - q := rfl
def spRanked (K : PySem.W.Frag) : Sp := fun vs H Q _ => ∃ (cv : V) (a : Addr) (xs : List V) (qs : List Rat) (E B : Nat) (S : Rat), vs = [cv, .ref a] ∧ SqL K H a xs ∧ Ams K H xs qs ∧ Am K H cv S ∧ In E B S ∧ (∀ q ∈ qs, In E B q) ∧ qs.length ≤ 10 ∧ 0 < E ∧ E ≤ 2 ^ 140 ∧ B ≤ 2 ^ 24 ∧
  ∀ (c : Addr) (zs : List V) H', H c = none → H' c = some (.lst zs) → Ams K H' zs (rankQ S qs) → Ext [] H H' → Q (.ref c) H'
abbrev s_law_ranked : Stmt := top 51
theorem c_law_ranked : FnScope ["_law_most", "_law_limits_of", "_law_found", "_law_used", "_law_one"] ["_law_most", "_law_limits_of"] (defScope s_law_ranked) := ⟨rfl, rfl, rfl, by decide +kernel, rfl, by decide +kernel, by decide +kernel⟩
theorem f_law_ranked (F : FunD K "_law_ranked" "_law_ranked" (defArgs s_law_ranked) (defBody s_law_ranked) (defScope s_law_ranked) [] [] f fd) (hm : mg "_law_ranked" = some (.ref f)) (T : Bt mg) (F_law_sum : Fn P w K mg base 2 "_law_sum" (sp2 (fun _ _ => True) (· + ·) K)) (F_law_rest : Fn P w K mg base 2 "_law_rest" (sp2 (fun _ _ => True) restQ K)) (F_law_min : Fn P w K mg base 2 "_law_min" (sp2 (fun _ _ => True) lmin K)) : Fn P w K mg base 3 "_law_ranked" (spRanked K) := by
  refine fn_def F hm c_law_ranked (fun vs H Q E h => ?_) (fun _ _ _ _ _ _ us hl => match us, hl with | [_, _], _ => rfl) (fun cdv A outer s H vs Q E hr h => ?_)
  · obtain ⟨cv, a, xs, qs, E, B, S, rfl, _⟩ := h
    rfl
  · obtain ⟨cv, a, xs, qs, E, B, S, rfl, ha, hq, hS, iS, iq, hn, E0, E9, B9, k'⟩ := h
    have nd := c_law_ranked.nd
    refine ⟨_, (pss_cons (ps_par (i := 2) (j := 3) (by rfl) nd rfl rfl (by decide) rfl rfl (pa_cons (pe_lst pa_nil) (pa_cons (pe_tup (pa_cons pe_int (pa_cons pe_int pa_nil))) pa_nil)) (by rfl))
      (pss_cons (ps_for PassesOwn.never rfl (pi_list (pv 1)) (pg_name (i := 4) nd rfl (by first | exact Or.inl rfl | exact Or.inr rfl))
        (pss_cons (ps_expr (pe_bm PySem.F.plainAttrs_list PySem.F.slot_list_append PySem.F.type_list_append mt_append (pv 2) (pa_cons (pe_fn F_law_min (hr.mono (by decide)) (pa_cons (pv 4) (pa_cons (pe_fn F_law_rest (hr.mono (by decide)) (pa_cons (pv 0) (pa_cons (pv 3) pa_nil))) pa_nil))) pa_nil)))
        (pss_one (ps_set (i := 3) nd rfl (by first | exact Or.inl rfl | exact Or.inr rfl) (pe_fn F_law_min (hr.mono (by decide)) (pa_cons (pv 0) (pa_cons (pe_fn F_law_sum (hr.mono (by decide)) (pa_cons (pv 3) (pa_cons (pv 4) pa_nil))) pa_nil)))))))
      (pss_one (ps_ret (pv 2))))), ?_⟩
    show (_ : TS) _ [some _, some _, none, none, none] _
    try dsimp only [cxOf, Cx.nox]
    have lx := hq.1
    have zz : ∀ {q : Rat} {n : Nat}, In E (n * B) q → n ≤ 2 → Sz 4000 q := fun i h => (i.sz E0 E9 (Nat.le_trans (Nat.mul_le_mul h B9) (by decide : 2 * 2 ^ 24 ≤ 2 ^ 25))).mono (by decide)
    have z1 : ∀ {q : Rat}, In E B q → Sz 4000 q := fun i => zz (n := 1) (by rw [Nat.one_mul]; exact i) (by decide)
    walk_at "go"
    rename_i c hc t ht
    have m0 := ((Ext.refl (S := []) (H := H)).new (o := .lst []) hc).new (o := .tup [.int 0, .int 1]) ht
    have h0 : upd (upd H c (.lst [])) t (.tup [.int 0, .int 1]) c = some (.lst []) := by rw [upd_ne (ne_of_none (upd_same) ht)]; exact upd_same
    have t0 : Am K (upd (upd H c (.lst [])) t (.tup [.int 0, .int 1])) (.ref t) 0 := ⟨t, rfl, tupS⟩
    generalize upd (upd H c (.lst [])) t (.tup [.int 0, .int 1]) = H0 at *
    refine r_for ?_
    walk_at "go"
    refine ⟨a, rfl, ⟨_, lst0 m0 ha⟩, ?_⟩
    refine r_loopL (xs := xs) (fun i σ' H' => ∃ (acc : List V) (uv : V) (u : Rat) (u4 : Option V), σ' = [some cv, some (V.ref a), some (V.ref c), some uv, u4] ∧ Ext [] H H' ∧ H' c = some (.lst acc) ∧ Ams K H' acc (rankQ S (qs.take i)) ∧ Am K H' uv u ∧ In E B u ∧ u ≤ S ∧ S - u = restR S (qs.take i))
      ⟨[], _, 0, _, rfl, m0, h0, Ams.nil, t0, In.zero, iS.nn, by show S - 0 = S; grind⟩ ?_ ?_ ?_
    · rintro i σ' H' hi ⟨_, _, _, _, rfl, e, _⟩
      exact lst0 e ha
    · rintro i y σ' H1 hy ⟨acc, uv, u, u4, rfl, e1, h1, ams, au, iu, hle, hr⟩
      obtain ⟨q, hq1, aq⟩ := hq.at_ hy
      have hm := List.mem_of_getElem? hq1
      have hl1 := ams.1
      have hil := (List.getElem?_eq_some_iff.mp hy).1
      rw [rankQ_len, List.length_take] at hl1
      have iq' := iq q hm
      have ir : In E B (S - u) := iS.sub iu hle
      walk_at "go"
      refine ⟨ty_lst h1, ?_⟩
      walk_at "go"
      refine k_two (hS.x0 e1) au (z1 iS) (z1 iu) iS.nn iu.nn trivial fun v2 H2 n2 a2 => ?_
      rw [rest_sub hle] at a2
      walk_at "go"
      refine k_two (aq.x0 (e1.trans n2)) a2 (z1 iq') (z1 ir) iq'.nn ir.nn trivial fun v3 H3 n3 a3 => ?_
      have n13 := n2.trans n3
      have h3 := n13 _ _ h1 fun z => nomatch z
      walk_at "go"
      try refine r_app h3 (by omega) ?_
      have e4 : Ext [] H (upd H3 c (.lst (acc ++ [v3]))) := (e1.trans n13).own hc
      have h4 : upd H3 c (.lst (acc ++ [v3])) c = some (.lst (acc ++ [v3])) := upd_same
      have ams4 := ((ams.x0 n13).w (l' := acc ++ [v3]) h3).app (Ams.cons (a3.w h3) Ams.nil)
      have au4 := (au.x0 n13).w (l' := acc ++ [v3]) h3
      generalize upd H3 c (.lst (acc ++ [v3])) = H4 at *
      walk_at "go"
      refine k_two au4 (aq.x0 e4) (z1 iu) (z1 iq') iu.nn iq'.nn trivial fun v5 H5 n5 a5 => ?_
      have i5 : In E (2 * B) (u + q) := by rw [Nat.two_mul]; exact iu.add iq'
      walk_at "go"
      refine k_two (hS.x0 (e4.trans n5)) a5 (z1 iS) (zz i5 (by decide)) iS.nn i5.nn trivial fun v6 H6 n6 a6 => ?_
      walk_at "go"
      have n46 := n5.trans n6
      refine ⟨_, _, _, _, rfl, e4.trans n46, n46 _ _ h4 (fun z => nomatch z), ?_, a6, iS.lmin1 i5, lmin_le1 _ _, ?_⟩
      · rw [take_snoc hq1, rank_snoc, ← hr]
        exact ams4.x0 n46
      · rw [take_snoc hq1, rest_snoc, ← hr]
        unfold lmin
        grind
    · rintro σ' H1 ⟨acc, uv, u, u4, rfl, e1, h1, ams, au, iu, hle, hr⟩
      rw [lx, List.take_length] at ams
      walk_at "go"
      exact k' c acc H1 hc h1 ams e1
def spSumsUp (K : PySem.W.Frag) : Sp := fun vs H Q _ => ∃ t v xs qs X M, vs = [V.ref t, v] ∧ SqL K H t xs ∧ Ams K H xs qs ∧ (∀ q ∈ qs, In X M q) ∧ 0 < X ∧ X ≤ 2 ^ 400 ∧ qs.length * M ≤ 2 ^ 400 ∧ Am K H v (sumQ qs) ∧ ∀ H', Ext [] H H' → Q (.bl true) H'
abbrev s_law_sums_up : Stmt := top 49
theorem c_law_sums_up : FnScope ["_law_row", "_law_one"] ["_law_row", "_law_one"] (defScope s_law_sums_up) := ⟨rfl, rfl, rfl, by decide +kernel, rfl, by decide +kernel, by decide +kernel⟩
theorem f_law_sums_up (F : FunD K "_law_sums_up" "_law_sums_up" (defArgs s_law_sums_up) (defBody s_law_sums_up) (defScope s_law_sums_up) [] [] f fd) (hm : mg "_law_sums_up" = some (.ref f)) (F_law_all : Fn P w K mg base 3 "_law_all" (spLAll K)) (F_law_same : Fn P w K mg base 4 "_law_same" (spLike K 4)) : Fn P w K mg base 5 "_law_sums_up" (spSumsUp K) := by
  refine fn_def F hm c_law_sums_up (fun vs H Q E h => ?_) (fun _ _ _ _ _ _ us hl => match us, hl with | [_, _], _ => rfl) (fun cdv A outer s H vs Q E hr h => ?_)
  · obtain ⟨t, v, xs, qs, X, M, rfl, _⟩ := h
    rfl
  · obtain ⟨t, v, xs, qs, X, M, rfl, ht, hq, iq, X0, X9, hl, hv, k⟩ := h
    have nd := c_law_sums_up.nd
    refine ⟨_, (pss_one (ps_ret (pe_fn F_law_same (hr.mono (by decide)) (pa_cons (pe_fn F_law_all (hr.mono (by decide)) (pa_cons (pv 0) pa_nil)) (pa_cons (pv 1) pa_nil))))), ?_⟩
    show (_ : TS) _ [some _, some _] _
    try dsimp only [cxOf, Cx.nox]
    walk_at "go"
    refine ⟨t, xs, qs, X, M, rfl, ht, hq, iq, X0, X9, hl, fun v1 H1 n1 a1 => ?_⟩
    walk_at "go"
    refine k_like (a1.eqd 2 (hv.x0 n1)) fun H2 n2 => ?_
    walk_at "go"
    exact k _ (n1.trans n2)
theorem frac1 {g : Rat} {w : Nat} (h : 0 < w) : g * mkRat ((1 : Nat) : Int) w = g / (w : Rat) := by
  rw [Rat.mkRat_eq_div]
  have := natP h
  have e : (((1 : Nat) : Int) : Rat) = 1 := by norm_cast
  rw [e]
  grind
def spLevelEx (K : PySem.W.Frag) : Sp := fun vs H Q _ => ∃ (a b c d : Addr) (os ls ts : List V) (fs : List Fl) (gs : List Rat) (D E M B X : Nat) (S : Rat), vs = [.ref a, .ref b, .ref c, .ref d] ∧ SqL K H a (wv fs) ∧ SqL K H b os ∧ SqL K H c ls ∧ SqL K H d ts ∧ Ams K H os (fs.map (·.own)) ∧ Ams K H ls (fs.map (·.q)) ∧ Ams K H ts (addQ (fs.map (·.own)) gs) ∧
  FlOk D E M B fs S ∧ Filled (fs.map (·.want)) (S - sumQ (fs.map (·.own))) gs ∧ 0 < X ∧ X ≤ 2 ^ 150 ∧ (∀ g ∈ gs, In X M g) ∧ ∀ H', Ext [] H H' → Q (.bl true) H'
theorem addQ_at : ∀ {ps qs : List Rat} {i : Nat} {x : Rat}, (addQ ps qs)[i]? = some x → ∃ p q, ps[i]? = some p ∧ qs[i]? = some q ∧ x = p + q
  | [], _, i, x, h => by cases h
  | _ :: _, [], i, x, h => by cases h
  | p :: ps, q :: qs, 0, x, h => by cases h; exact ⟨p, q, rfl, rfl, rfl⟩
  | p :: ps, q :: qs, i + 1, x, h => by
    obtain ⟨a, b, h1, h2, h3⟩ := addQ_at (ps := ps) (qs := qs) (i := i) (x := x) (by exact h)
    exact ⟨a, b, by simpa using h1, by simpa using h2, h3⟩
theorem addQ_get : ∀ {ps qs : List Rat} {i : Nat} {p q : Rat}, ps[i]? = some p → qs[i]? = some q → (addQ ps qs)[i]? = some (p + q)
  | [], _, i, p, q, h, _ => by cases h
  | _ :: _, [], i, p, q, _, h => by cases h
  | a :: ps, b :: qs, 0, p, q, h1, h2 => by cases h1; cases h2; rfl
  | a :: ps, b :: qs, i + 1, p, q, h1, h2 => by
    show (addQ ps qs)[i]? = _
    exact addQ_get (by simpa using h1) (by simpa using h2)
abbrev s_law_level_extras : Stmt := top 50
theorem c_law_level_extras : FnScope ["_law_weights_of", "_law_own", "_law_limits_of", "_law_told", "_law_extras_here", "_law_one", "_law_two", "_law_open_ones", "_law_k", "_law_height", "_law_mine"] ["_law_weights_of", "_law_own", "_law_limits_of", "_law_told"] (defScope s_law_level_extras) := ⟨rfl, rfl, rfl, by decide +kernel, rfl, by decide +kernel, by decide +kernel⟩
theorem f_law_level_extras (F : FunD K "_law_level_extras" "_law_level_extras" (defArgs s_law_level_extras) (defBody s_law_level_extras) (defScope s_law_level_extras) [] [] f fd) (hm : mg "_law_level_extras" = some (.ref f)) (T : Bt mg) (F_law_rest : Fn P w K mg base 2 "_law_rest" (sp2 (fun _ _ => True) restQ K)) (F_law_less : Fn P w K mg base 1 "_law_less" (spLess K)) (F_law_scaled : Fn P w K mg base 2 "_law_scaled" (spScaled K)) : Fn P w K mg base 3 "_law_level_extras" (spLevelEx K) := by
  refine fn_def F hm c_law_level_extras (fun vs H Q E h => ?_) (fun _ _ _ _ _ _ us hl => match us, hl with | [_, _, _, _], _ => rfl) (fun cdv A outer s H vs Q E hr h => ?_)
  · obtain ⟨a, b, c, d, os, ls, ts, fs, gs, D, E, M, B, X, S, rfl, _⟩ := h
    rfl
  · obtain ⟨a, b, c, d, os, ls, ts, fs, gs, D, E, M, B, X, S, rfl, ha, hb, hc, hd, ao, al, at_, W, F, X0, X9, iX, k⟩ := h
    have nd := c_law_level_extras.nd
    refine ⟨_, (pss_cons (ps_setLc (i := 4) (own := [("_law_one", 5), ("_law_two", 6)])  rfl nd rfl rfl (sw_true rfl rfl rfl (by decide +kernel)) (RZ.pi_zipA (by rfl) T.zip (pa_cons (pv 3) (pa_cons (pv 1) pa_nil))) (blkOk_by (N := ["_law_weights_of", "_law_own", "_law_limits_of", "_law_told", "_law_extras_here", "_law_one", "_law_two", "_law_open_ones", "_law_k", "_law_height", "_law_mine"]) (sc := defScope s_law_level_extras) (by decide +kernel)) (fun _ _ _ _ _ => (pg_tup (n := 2) rfl (pgs_cons (pg_name (i := 5) nd rfl (Or.inl rfl)) (pgs_cons (pg_name (i := 6) nd rfl (Or.inl rfl)) pgs_nil)) : PG _ _ (gTup K 2 _))) (fun _ _ _ _ _ => pts_nil) (fun _ _ _ _ _ => (pe_fn F_law_rest (hr.mono (by decide)) (pa_cons (pv 5) (pa_cons (pv 6) pa_nil)))))
      (pss_cons (ps_setLc (i := 7) (own := [("_law_k", 8)]) (g := gName 8) rfl nd rfl rfl (sw_true rfl rfl rfl (by decide +kernel)) (pi_range1 rfl T.range (pa_cons (pe_callB cr_len (by rfl) T.len (by decide +kernel) (pa_cons (pv 3) pa_nil)) pa_nil)) (blkOk_by (N := ["_law_weights_of", "_law_own", "_law_limits_of", "_law_told", "_law_extras_here", "_law_one", "_law_two", "_law_open_ones", "_law_k", "_law_height", "_law_mine"]) (sc := defScope s_law_level_extras) (by decide +kernel)) (fun _ _ _ _ _ => pg_name (i := 8) nd rfl (Or.inl rfl)) (fun _ _ _ _ _ => (pts_one (pt_val (pe_fn F_law_less (hr.mono (by decide)) (pa_cons (pe_ix ix_list (pv 3) (pv 8) (fun _ _ => rfl) : PE _ _ (tOp (rIxL K) _ _)) (pa_cons (pe_ix ix_list (pv 2) (pv 8) (fun _ _ => rfl) : PE _ _ (tOp (rIxL K) _ _)) pa_nil)))))) (fun _ _ _ _ _ => (pv 8)))
      (pss_cons (ps_if (pt_cmpR (op_eqD hr.units) (pv 7) (pe_lst pa_nil) (nomark _))
        (pss_one (ps_ret pe_bl))
        pss_nil)
      (pss_cons (ps_set (i := 9) nd rfl (by first | exact Or.inl rfl | exact Or.inr rfl) (pe_fn F_law_scaled (hr.mono (by decide)) (pa_cons (pe_ix ix_list (pv 4) (pe_ix ix_list (pv 7) pe_int (fun _ _ => rfl)) (fun _ _ => rfl)) (pa_cons pe_int (pa_cons (pe_ix ix_list (pv 0) (pe_ix ix_list (pv 7) pe_int (fun _ _ => rfl)) (fun _ _ => rfl)) pa_nil)))))
      (pss_cons (ps_for PassesOwn.never rfl (pi_range1 rfl T.range (pa_cons (pe_callB cr_len (by rfl) T.len (by decide +kernel) (pa_cons (pv 3) pa_nil)) pa_nil)) (pg_name (i := 8) nd rfl (by first | exact Or.inl rfl | exact Or.inr rfl))
        (pss_cons (ps_set (i := 10) nd rfl (by first | exact Or.inl rfl | exact Or.inr rfl) (pe_fn F_law_scaled (hr.mono (by decide)) (pa_cons (pe_ix ix_list (pv 4) (pv 8) (fun _ _ => rfl)) (pa_cons pe_int (pa_cons (pe_ix ix_list (pv 0) (pv 8) (fun _ _ => rfl)) pa_nil)))))
        (pss_one (ps_if (PW.pt (pw_or (PW.pt (pw_and (pt_cmpR op_in_seq (pv 8) (pv 7) (by rfl)) (pw_and1 (pt_cmpR (op_neD hr.units) (pv 10) (pv 9) (nomark _))))) (pw_or1 (pt_val (pe_fn F_law_less (hr.mono (by decide)) (pa_cons (pv 9) (pa_cons (pv 10) pa_nil)))))))
          (pss_one (ps_ret pe_bl))
          pss_nil))))
      (pss_one (ps_ret pe_bl))))))), ?_⟩
    show (_ : TS) _ [some _, some _, some _, some _, none, none, none, none, none, none, none] _
    try dsimp only [cxOf, Cx.nox]
    have ln := W.n
    have lg := F.len
    rw [List.length_map] at lg
    have lo := ao.1
    have ll := al.1
    have lt := at_.1
    rw [List.length_map] at lo ll
    rw [addQ_len (by rw [List.length_map]; omega), List.length_map] at lt
    have z1 : ∀ {q : Rat}, In D M q → Sz 165 q := fun i => W.sz i
    have z2 : ∀ {g : Rat}, g ∈ gs → Sz 175 g := fun h => (iX _ h).sz X0 X9 W.M9
    have z3 : ∀ {i : Nat} {x : Rat}, (addQ (fs.map (·.own)) gs)[i]? = some x → ∃ f g, fs[i]? = some f ∧ gs[i]? = some g ∧ x = f.own + g ∧ Sz 4000 x ∧ 0 ≤ x ∧ 0 ≤ g ∧ 0 ≤ f.own ∧ f ∈ fs ∧ g ∈ gs := fun {i x} h => by
      obtain ⟨p, g, h1, h2, rfl⟩ := addQ_at h
      obtain ⟨f, hf, rfl⟩ := fmap h1
      have m1 := List.mem_of_getElem? hf
      have m2 := List.mem_of_getElem? h2
      have i1 := ((W.own m1).up W.dE).up (Nat.dvd_mul_right E X)
      have i2 := (iX g m2).up (Nat.dvd_mul_left X E)
      exact ⟨f, g, hf, h2, rfl, ((i1.add i2).sz (j := 290) (k := 25) (Nat.mul_pos W.E0 X0) (Nat.le_trans (Nat.mul_le_mul W.E9 X9) (by decide)) (by have := W.M9; omega)).mono (by decide), (i1.add i2).nn, i2.nn, i1.nn, m1, m2⟩
    walk_at "go"
    refine ⟨d, b, ts, os, rfl, .inl ⟨hd, hb, fun D1 hD1 => ?_⟩⟩
    refine r_lcZL (xs := ts) (ys := os) (by omega) (fun i H1 => ∃ acc : List V, Ext [] H H1 ∧ H1 D1 = some (.lst acc) ∧ Ams K H1 acc (gs.take i)) ⟨[], Ext.refl.new hD1, upd_same, Ams.nil⟩ (fun i H1 p => by obtain ⟨_, e, _⟩ := p; exact ⟨lst0 e hd, lst0 e hb⟩) ?_ ?_
    · rintro i x y T H1 hx hy ⟨acc, e1, h1, am⟩ hT
      have hi := (List.getElem?_eq_some_iff.mp hx).1
      have m1 := (Ext.refl (S := []) (H := H1)).new (o := .tup [x, y]) hT
      have e2 := e1.trans m1
      obtain ⟨t, ht, at1⟩ := at_.at_ hx
      obtain ⟨fl, g, hf, hg, rfl, zt, t0, g0, o0, mf, mg'⟩ := z3 ht
      obtain ⟨o, ho, ao1⟩ := ao.at_ hy
      obtain ⟨fl', hf', rfl⟩ := fmap ho
      rw [hf] at hf'
      cases hf'
      have hl1 := am.1
      rw [List.length_take] at hl1
      walk_at "go"
      refine ⟨rfl, ?_⟩
      walk_at "go"
      refine k_two (at1.x0 e2) (ao1.x0 e2) zt ((z1 (W.own mf)).mono (by decide)) t0 o0 trivial fun v3 H3 n3 a3 => ?_
      rw [rest_sub (by grind), show fl.own + g - fl.own = g by grind] at a3
      have hac : H3 D1 = some (.lst acc) := (m1.trans n3) _ _ h1 fun z => nomatch z
      refine ⟨acc, hac, Nat.lt_of_le_of_lt (by omega : acc.length ≤ 4000) (by decide), acc ++ [v3], (e2.trans n3).own hD1, upd_same, ?_⟩
      rw [take_snoc hg]
      exact (((am.x0 m1).x0 n3).w hac).app (Ams.cons (a3.w hac) Ams.nil)
    · rintro H1 ⟨acc, e1, h1, am⟩
      rw [show ts.length = gs.length by omega, List.take_length] at am
      have la := am.1
      walk_at "go"
      try refine r_len (.inl (lst0 e1 hd)) ?_
      walk_at "go"
      refine ⟨_, rfl, by omega, by omega, fun D2 hD2 => ?_⟩
      obtain ⟨op, hop⟩ : ∃ op : Nat → Bool, op = fun k => decide ((addQ (fs.map (·.own)) gs).getD k 0 < (fs.map (·.q)).getD k 0) := ⟨_, rfl⟩
      refine r_lcR (n := ts.length) (fun i H2 => H2 D2 = some (.lst (iv ((List.range i).filter op))) ∧ Ext [] H1 H2) ⟨upd_same, Ext.refl.new hD2⟩ ?_ ?_
      · rintro i H2 hi ⟨h2, n2⟩
        have hv := List.getElem?_eq_getElem hi
        generalize ts[i]'hi = v at hv
        have hv2 := List.getElem?_eq_getElem (show i < ls.length by omega)
        generalize ls[i]'(by omega) = v2 at hv2
        obtain ⟨t, ht, at1⟩ := at_.at_ hv
        obtain ⟨fl, g, hf, hg, et, zt, t0, g0, o0, mf, mg'⟩ := z3 ht
        obtain ⟨q, hq, aq1⟩ := al.at_ hv2
        have eq1 : (addQ (fs.map (·.own)) gs).getD i 0 = t := by rw [List.getD_eq_getElem?_getD, ht]; rfl
        have eq2 : (fs.map (·.q)).getD i 0 = q := by rw [List.getD_eq_getElem?_getD, hq]; rfl
        obtain ⟨fl', hf', rfl⟩ := fmap hq
        rw [hf] at hf'
        cases hf'
        have e12 := e1.trans n2
        have hop1 : op i = decide (t < fl.q) := by
          rw [hop]
          show decide (_ < _) = _
          rw [eq1, eq2]
        have hlen : ((List.range i).filter op).length ≤ i := Nat.le_trans (List.length_filter_le _ _) (by rw [List.length_range]; exact Nat.le_refl _)
        walk_at "go"
        refine ⟨rfl, ?_⟩
        walk_at "go"
        refine r_ixL (lst0 e12 hd) (at_n (n := i) (by rw [Int.zero_add]) hv) ?_
        walk_at "go"
        refine r_ixL (lst0 e12 hc) (at_n (n := i) (by rw [Int.zero_add]) hv2) ?_
        walk_at "go"
        refine ⟨v, v2, t, fl.q, rfl, at1.x0 e12, aq1.x0 e12, zt, (z1 (W.q fl mf)).mono (by decide), ?_⟩
        walk_at "go"
        refine r_dec (fun hlt => ?_) (fun hlt => ?_)
        · walk_at "go"
          refine ⟨_, h2, Nat.lt_of_le_of_lt (by rw [iv_len]; omega : _ ≤ 4000) (by decide), ?_, n2.own hD2⟩
          rw [List.range_succ, List.filter_append, List.filter_cons_of_pos (by rw [hop1]; exact decide_eq_true hlt), List.filter_nil, iv_snoc, Int.zero_add]
          exact upd_same
        · refine ⟨?_, n2⟩
          rw [List.range_succ, List.filter_append, List.filter_cons_of_neg (by rw [hop1]; simpa using hlt), List.filter_nil, List.append_nil]
          exact h2
      · rintro H2 ⟨h2, n2⟩
        have e2 := e1.trans n2
        obtain ⟨lam, Pp, hl1, hl2⟩ := F.lam (W.sp.ok)
        have isOp : ∀ {j : Nat} {fl : Fl} {g : Rat}, fs[j]? = some fl → gs[j]? = some g → (op j = true ↔ g ≠ fl.want.h) := fun {j fl g} hf hg => by
          have e1 : (addQ (fs.map (·.own)) gs)[j]? = some (fl.own + g) := by
            exact addQ_get (by rw [List.getElem?_map, hf]; rfl) hg
          have e2 : (fs.map (·.q))[j]? = some fl.q := by rw [List.getElem?_map, hf]; rfl
          have hle := F.le hg (by rw [List.getElem?_map, hf]; rfl)
          rw [hop]
          show decide ((addQ (fs.map (·.own)) gs).getD j 0 < (fs.map (·.q)).getD j 0) = true ↔ _
          rw [List.getD_eq_getElem?_getD, List.getD_eq_getElem?_getD, e1, e2, decide_eq_true_iff]
          show fl.own + g < fl.q ↔ g ≠ fl.q - fl.own
          have hle : g ≤ fl.q - fl.own := hle
          constructor
          · intro h z
            grind
          · intro h
            grind
        walk_at "go"
        rename_i pe hpe
        have m3 := (Ext.refl (S := []) (H := H2)).new (o := .lst []) hpe
        have hle : SqL K (upd H2 pe (.lst [])) pe [] := lstS
        have e3 := e2.trans m3
        have h23 := m3 _ _ h2 fun z => nomatch z
        have h13 := (n2.trans m3) _ _ h1 fun z => nomatch z
        have am3 := (am.x0 n2).x0 m3
        generalize upd H2 pe (.lst []) = H3 at *
        obtain ⟨ks, hks⟩ : ∃ ks, ks = (List.range ts.length).filter op := ⟨_, rfl⟩
        rw [← hks] at h23 h2
        have kin : ∀ {j : Nat}, j < ts.length → (j ∈ ks ↔ op j = true) := fun hj => by rw [hks, List.mem_filter]; exact ⟨fun h => h.2, fun h => ⟨List.mem_range.mpr hj, h⟩⟩
        obtain ⟨ds, d1, d2, d3, d4⟩ := dp_iv (K := K) (H := H3) ks
        refine eq_nil d1 d2 d3 d4 (.inl (.inl h23)) hle ?_
        walk_at "go"
        refine r_dec (fun h0 => ?_) (fun h0 => ?_)
        · walk_at "go"
          exact k _ e3
        · have hk0 := List.getElem?_eq_getElem (show 0 < ks.length by omega)
          generalize ks[0]'(by omega) = k0 at hk0
          have hm0 : k0 ∈ ks := List.mem_of_getElem? hk0
          have hlt0 : k0 < ts.length := List.mem_range.mp (by rw [hks] at hm0; exact (List.mem_filter.mp hm0).1)
          have wv_at : ∀ {j : Nat} {fl : Fl}, fs[j]? = some fl → (wv fs)[j]? = some (.int (fl.w : Int)) := fun h => by unfold wv; rw [List.getElem?_map, h]; rfl
          have item : ∀ {j : Nat}, j < ts.length → ∃ (fl : Fl) (g : Rat) (v : V), fs[j]? = some fl ∧ gs[j]? = some g ∧ acc[j]? = some v ∧ Am K H3 v g ∧ fl ∈ fs ∧ g ∈ gs := fun {j} hj => by
            have h1 := List.getElem?_eq_getElem (show j < fs.length by omega)
            have h2 := List.getElem?_eq_getElem (show j < gs.length by omega)
            have h3 := List.getElem?_eq_getElem (show j < acc.length by omega)
            exact ⟨_, _, _, h1, h2, h3, am3.2 j _ _ h3 h2, List.getElem_mem _, List.getElem_mem _⟩
          obtain ⟨f0, g0, v0, hf0, hg0, hv0, a0, mf0, mg0⟩ := item hlt0
          have ho0 := (isOp hf0 hg0).mp ((kin hlt0).mp hm0)
          obtain ⟨r1, r2⟩ := hl1 k0 g0 f0.want hg0 (by rw [List.getElem?_map, hf0]; rfl) ho0
          have lamz : ∀ {g : Rat} {wt : Nat}, g ∈ gs → 0 < wt → wt ≤ 12 → Sz 4000 (g / (wt : Rat)) := fun {g wt} hg h0 h12 => by
            have h := (iX g hg).divN h0
            exact (h.sz (j := 154) (k := 24) (Nat.mul_pos X0 h0) (Nat.le_trans (Nat.mul_le_mul X9 h12) (by decide)) W.M9).mono (by decide)
          have wlt : ∀ {wt : Nat}, wt ≤ 12 → wt < 2 ^ 400 := fun h => Nat.lt_of_le_of_lt h (Nat.lt_of_lt_of_le (by decide : 12 < 2 ^ 4) (Nat.pow_le_pow_right (by decide) (by decide)))
          have iv0 : (iv ks)[0]? = some (.int (k0 : Int)) := by unfold iv; rw [List.getElem?_map, hk0]; rfl
          walk_at "go"
          refine r_ixL (.inl (.inl h23)) (at_n (n := 0) rfl iv0) ?_
          walk_at "go"
          refine r_ixL (.inl (.inl h13)) (at_n (n := k0) rfl hv0) ?_
          walk_at "go"
          refine r_ixL (.inl (.inl h23)) (at_n (n := 0) rfl iv0) ?_
          walk_at "go"
          refine r_ixL (lst0 e3 ha) (at_n (n := k0) rfl (wv_at hf0)) ?_
          walk_at "go"
          refine ⟨v0, g0, 1, f0.w, rfl, a0, (iX g0 mg0).nn, W.w0 f0 mf0, (z2 mg0).mono (by decide), wlt (by decide), wlt (W.w12 f0 mf0), fun v4 H4 n4 a4 => ?_⟩
          rw [frac1 (W.w0 f0 mf0)] at a4
          have r1 : g0 / (f0.w : Rat) = lam := r1
          rw [r1] at a4
          have zlam : Sz 4000 lam := by rw [← r1]; exact lamz mg0 (W.w0 f0 mf0) (W.w12 f0 mf0)
          have e4 := e3.trans n4
          walk_at "go"
          refine r_for ?_
          walk_at "go"
          try refine r_len (.inl (lst0 e4 hd)) ?_
          walk_at "go"
          refine ⟨_, rfl, by omega, by omega, ?_⟩
          refine r_loopR (fun i σ' H' => ∃ (u8 u10 : Option V), σ' = [some (V.ref a), some (V.ref b), some (V.ref c), some (V.ref d), some (V.ref D1), none, none, some (V.ref D2), u8, some v4, u10] ∧ Ext [] H4 H') ⟨_, _, rfl, Ext.refl⟩ ?_ ?_
          · rintro j σ' H5 hj ⟨u8, u10, rfl, n5⟩
            obtain ⟨f1, g1, v1, hf1, hg1, hv1, a1, mf1, mg1⟩ := item (j := j) (by omega)
            have n45 := n4.trans n5
            walk_at "go"
            refine r_ixL (.inl (.inl (n45 _ _ h13 fun z => nomatch z))) (at_n (n := j) (by rw [Int.zero_add]) hv1) ?_
            walk_at "go"
            refine r_ixL (lst0 (e4.trans n5) ha) (at_n (n := j) (by rw [Int.zero_add]) (wv_at hf1)) ?_
            walk_at "go"
            refine ⟨v1, g1, 1, f1.w, rfl, a1.x0 n45, (iX g1 mg1).nn, W.w0 f1 mf1, (z2 mg1).mono (by decide), wlt (by decide), wlt (W.w12 f1 mf1), fun v6 H6 n6 a6 => ?_⟩
            rw [frac1 (W.w0 f1 mf1)] at a6
            have z6 := lamz mg1 (W.w0 f1 mf1) (W.w12 f1 mf1)
            have hle1 : g1 / (f1.w : Rat) ≤ lam := hl2 r2 j g1 f1.want hg1 (by rw [List.getElem?_map, hf1]; rfl)
            have a46 := a4.x0 (n5.trans n6)
            have h26 := (n45.trans n6) _ _ h23 fun z => nomatch z
            walk_at "go"
            refine ⟨D2, iv ks, rfl, .inl (.inl (.inl h26)), rfl, iv_flat _, ?_⟩
            rw [show inV (V.int (0 + (j : Int))) (iv ks) = decide (j ∈ ks) by rw [Int.zero_add]; exact iv_in j ks]
            refine ⟨_, rfl, ?_⟩
            refine r_dec (fun hin => ?_) (fun hin => ?_)
            · have ev : g1 / (f1.w : Rat) = lam := (hl1 j g1 f1.want hg1 (by rw [List.getElem?_map, hf1]; rfl) ((isOp hf1 hg1).mp ((kin (by omega)).mp hin))).1
              walk_at "go"
              refine ne_am a6 a46 ?_
              rw [decide_eq_true ev]
              walk_at "run"
              refine ⟨v4, v6, lam, _, rfl, a46, a6, zlam, z6, ?_⟩
              rw [decide_eq_false (Rat.not_lt.mpr hle1)]
              walk_at "run"
              exact ⟨_, _, rfl, n5.trans n6⟩
            · walk_at "run"
              try walk_at "go"
              refine ⟨v4, v6, lam, _, rfl, a46, a6, zlam, z6, ?_⟩
              rw [decide_eq_false (Rat.not_lt.mpr hle1)]
              walk_at "run"
              exact ⟨_, _, rfl, n5.trans n6⟩
          · rintro σ' H5 ⟨u8, u10, rfl, n5⟩
            walk_at "go"
            exact k _ (e4.trans n5)
end
end Yk

set_option maxHeartbeats 2000000
namespace Yk
open PySem PySem.Spec PyProof.Rows L2
/-! Filling, the lowest height first. -/
def aq (os : List Want) (lam : Rat) (k : Nat) : Rat := lmin (hk os k) (wq os k * lam)
/-- some level is met already -/
structure XB (os : List Want) (S lam left : Rat) (done todo : List Nat) (gs : List Rat) : Prop where
  perm : (done ++ todo).Perm (List.range os.length)
  len : gs.length = os.length
  left_ : lam * sW os todo = left
  l0 : 0 ≤ lam
  sum : left + sumQ (done.map (aq os lam)) = S
  got : ∀ k ∈ done, gs[k]? = some (aq os lam k)
  big : ∀ k ∈ todo, wq os k * lam < hk os k
  wit : ∃ o ∈ os, (o.w : Rat) * lam < o.h
def XJ (os : List Want) (E M B : Nat) (S left : Rat) (done todo : List Nat) (gs : List Rat) : Prop :=
  (XI os S left done todo gs ∧ In E B left ∧ ∀ q ∈ gs, In E M q) ∨ ∃ (lam : Rat) (h0 : Nat), XB os S lam left done todo gs ∧ 0 < h0 ∧ h0 ≤ 120 ∧ In (E * h0) B lam ∧ In (E * h0) B left ∧ ∀ q ∈ gs, In (E * h0) M q
section
variable {os : List Want} {D E M B : Nat} {S left : Rat} {done todo : List Nat} {gs : List Rat}
theorem rest_perm {kk : Nat} : ∀ {l : List Nat}, l.Nodup → kk ∈ l → ([kk] ++ l.filter fun k => !decide (k = kk)).Perm l
  | a :: l, hn, hm => by
    obtain ⟨h1, h2⟩ := List.nodup_cons.mp hn
    by_cases e : a = kk
    · subst e
      rw [List.filter_cons_of_neg (by simp)]
      have : l.filter (fun k => !decide (k = a)) = l := List.filter_eq_self.mpr fun k hk' => by
        have : k ≠ a := fun z => h1 (by rw [← z]; exact hk')
        simp [this]
      rw [this]
      exact List.Perm.refl _
    · have hm2 : kk ∈ l := (List.mem_cons.mp hm).resolve_left fun z => e z.symm
      rw [List.filter_cons_of_pos (by simp [e])]
      have h3 := rest_perm h2 hm2
      exact (List.Perm.swap a kk _).trans (h3.cons a)
theorem set_in {X : Nat} {kk : Nat} {g : Rat} (h : ∀ q ∈ gs, In X M q) (hg : In X M g) : ∀ q ∈ gs.set kk g, In X M q := fun q hq => by
  rcases List.mem_or_eq_of_mem_set hq with h1 | h1
  · exact h q h1
  · rw [h1]; exact hg
theorem sW_one (kk : Nat) : sW os [kk] = wq os kk := by show sumQ (wq os kk :: []) = _; rw [sumQ_cons]; exact Rat.add_zero _
theorem sH_one (kk : Nat) : sH os [kk] = hk os kk := by show sumQ (hk os kk :: []) = _; rw [sumQ_cons]; exact Rat.add_zero _
theorem perm_disj (p : (done ++ todo).Perm (List.range os.length)) {k : Nat} (h1 : k ∈ done) (h2 : k ∈ todo) : False := (List.nodup_append.mp (p.symm.nodup List.nodup_range)).2.2 k h1 k h2 rfl
theorem perm_nd (p : (done ++ todo).Perm (List.range os.length)) : todo.Nodup := (List.nodup_append.mp (p.symm.nodup List.nodup_range)).2.1
theorem perm_lt (p : (done ++ todo).Perm (List.range os.length)) {k : Nat} (h : k ∈ todo) : k < os.length := List.mem_range.mp (p.subset (List.mem_append_right _ h))
theorem XB.step {lam : Rat} {kk : Nat} (I : XB os S lam left done todo gs) (hm : kk ∈ todo) : XB os S lam (left - wq os kk * lam) (done ++ [kk]) (todo.filter fun k => !decide (k = kk)) (gs.set kk (wq os kk * lam)) := by
  have hp := rest_perm (perm_nd I.perm) hm
  have e : sW os todo = wq os kk + sW os (todo.filter fun k => !decide (k = kk)) := by rw [← sW_perm hp, sW_app, sW_one]
  have hb := I.big kk hm
  have ea : aq os lam kk = wq os kk * lam := by
    unfold aq
    generalize wq os kk * lam = z at *
    unfold lmin
    grind
  have hl := I.left_
  have hs := I.sum
  have klt := perm_lt I.perm hm
  refine ⟨?_, by rw [List.length_set]; exact I.len, ?_, I.l0, ?_, ?_, fun k hk' => I.big k (hp.subset (List.mem_append_right _ hk')), I.wit⟩
  · rw [List.append_assoc]
    exact (hp.append_left done).trans I.perm
  · rw [e] at hl
    grind
  · rw [List.map_append, sumQ_app]
    show left - wq os kk * lam + (sumQ (done.map (aq os lam)) + sumQ [aq os lam kk]) = S
    rw [sumQ_cons, ea]
    show left - wq os kk * lam + (sumQ (done.map (aq os lam)) + (wq os kk * lam + 0)) = S
    grind
  · intro k hk'
    rcases List.mem_append.mp hk' with h | h
    · rw [List.getElem?_set_ne (fun z => perm_disj I.perm h (by rw [← z]; exact hm))]
      exact I.got k h
    · rw [List.mem_singleton.mp h, List.getElem?_set_self (by rw [I.len]; exact klt), ea]
theorem XB.all {lam : Rat} (I : XB os S lam left done [] gs) : Filled os S gs := by
  have hl : left = 0 := by
    have := I.left_
    have e : sW os [] = 0 := rfl
    rw [e] at this
    grind
  have val : ∀ (k : Nat) (o : Want), os[k]? = some o → gs[k]? = some (o.at_ lam) := fun k o e => by
    obtain ⟨e1, e2⟩ := get_wh e
    have hm : k ∈ done := by
      have h := I.perm.symm.subset (List.mem_range.mpr (List.getElem?_eq_some_iff.mp e).1)
      rwa [List.append_nil] at h
    rw [I.got k hm]
    unfold aq wq
    rw [e1, e2]
    rfl
  have hg := gs_eq I.len val
  refine .inr ⟨lam, I.l0, hg, ?_, I.wit⟩
  rw [hg, sum_range os]
  have hp := I.perm
  rw [List.append_nil] at hp
  have h := sumQ_perm (hp.map (aq os lam))
  have hs := I.sum
  have e : (List.range os.length).map (aq os lam) = (List.range os.length).map fun k => (os.getD k ⟨1, 0⟩).at_ lam := rfl
  rw [← e]
  grind
theorem XJ.step {kk : Nat} (W : SpOk D E M B os S) (I : XJ os E M B S left done todo gs) (hm : kk ∈ todo) (hmin : ∀ j ∈ todo, hk os kk * wq os j ≤ hk os j * wq os kk) :
    0 ≤ lmin (hk os kk) (left * (wq os kk / sW os todo)) ∧ lmin (hk os kk) (left * (wq os kk / sW os todo)) ≤ left ∧ XJ os E M B S (left - lmin (hk os kk) (left * (wq os kk / sW os todo))) (done ++ [kk]) (todo.filter fun k => !decide (k = kk)) (gs.set kk (lmin (hk os kk) (left * (wq os kk / sW os todo)))) := by
  have hn : todo ≠ [] := List.ne_nil_of_mem hm
  have T0 := sW_pos W.ok hn
  have w1 := wq0 W.ok kk
  have ihk := (hk_in W.ok kk).up W.dE
  rcases I with ⟨I, il, ig⟩ | ⟨lam, h0, I, hh, h120, ilam, il, ig⟩
  · have hp := rest_perm (perm_nd I.perm) hm
    have klt := I.lt (.inr hm)
    obtain ⟨lam, hlam⟩ : ∃ x, x = left / sW os todo := ⟨_, rfl⟩
    have el : lam * sW os todo = left := by rw [hlam]; grind
    have ev : left * (wq os kk / sW os todo) = wq os kk * lam := by rw [hlam]; grind
    have lam0 : 0 ≤ lam := by
      refine Rat.not_lt.mp fun z => ?_
      have := Rat.mul_pos (a := -lam) (b := sW os todo) (by grind) T0
      have := I.l0
      grind
    by_cases hs : hk os kk * sW os todo ≤ left * wq os kk
    · have h1 := small_aux el hs T0
      have eg : lmin (hk os kk) (left * (wq os kk / sW os todo)) = hk os kk := by
        rw [ev]
        generalize wq os kk * lam = z at *
        unfold lmin
        grind
      rw [eg]
      have hf : ∀ k ∈ [kk], hk os k * sW os todo ≤ left * wq os k := fun k hk' => by rw [List.mem_singleton.mp hk']; exact hs
      have pay := I.pay W.ok hp hf
      rw [sH_one] at pay
      have st := I.step (gs' := gs.set kk (hk os kk)) W.ok hp hf (by simp) (by rw [List.length_set]; exact I.len) (fun k hk' => by
        rw [List.getElem?_set_ne (fun z => I.disj hk' (by rw [← z]; exact hm))]
        exact I.got k hk') (fun k hk' => by rw [List.mem_singleton.mp hk', List.getElem?_set_self (by rw [I.len]; exact klt)])
      rw [sH_one] at st
      exact ⟨ihk.nn, pay, .inl ⟨st, il.sub ihk pay, set_in ig ihk⟩⟩
    · have hb : left * wq os kk < hk os kk * sW os todo := Rat.not_le.mp hs
      have bk := big_aux el hb T0
      have N0 : 0 < nW os todo := by
        have h := T0
        rw [← nW_q] at h
        exact_mod_cast h
      have N9 : nW os todo ≤ 120 := by
        have h1 := nW_le W.ok todo
        have h2 := I.perm.length_eq
        rw [List.length_append, List.length_range] at h2
        have := W.n
        omega
      have il2 : In (E * nW os todo) B lam := by
        rw [hlam, ← nW_q]
        exact il.divN N0
      have big : ∀ j ∈ todo, wq os j * lam < hk os j := fun j hj => by
        have h1 := hmin j hj
        have h2 := wq0 W.ok j
        refine Rat.not_le.mp fun z => ?_
        have h3 : hk os j * wq os kk ≤ wq os j * lam * wq os kk := Rat.mul_le_mul_of_nonneg_right z (by grind)
        have h4 := Rat.mul_pos (a := hk os kk - wq os kk * lam) (b := wq os j) (by grind) (by grind)
        grind
      have XB0 : XB os S lam left done todo gs := by
        refine ⟨I.perm, I.len, el, lam0, ?_, fun k hk' => ?_, big, ?_⟩
        · have : done.map (aq os lam) = done.map (hk os) := List.map_congr_left fun k hk' => by
            have h5 := small_aux el (I.lam k hk') T0
            unfold aq
            generalize wq os k * lam = z at *
            unfold lmin
            grind
          rw [this]
          exact I.hleft
        · rw [I.got k hk']
          have h5 := small_aux el (I.lam k hk') T0
          unfold aq
          generalize wq os k * lam = z at *
          unfold lmin
          grind
        · have e := List.getElem?_eq_getElem klt
          obtain ⟨e1, e2⟩ := get_wh e
          have ew : wq os kk = (os[kk].w : Rat) := by unfold wq; rw [e1]
          rw [ew, e2] at bk
          exact ⟨os[kk], List.getElem_mem klt, bk⟩
      have eg : lmin (hk os kk) (left * (wq os kk / sW os todo)) = wq os kk * lam := by
        rw [ev]
        generalize wq os kk * lam = z at *
        unfold lmin
        grind
      rw [eg]
      have st := XB0.step hm
      have iz : In (E * nW os todo) M (wq os kk * lam) := (il2.mulN (wk os kk)).of_le (Rat.le_trans (by show ((wk os kk : Nat) : Rat) * lam ≤ _; exact Rat.le_of_lt bk) (hk_in W.ok kk).le)
      have le : wq os kk * lam ≤ left := by
        have h6 := sW_nn W.ok (todo.filter fun k => !decide (k = kk))
        have e : sW os todo = wq os kk + sW os (todo.filter fun k => !decide (k = kk)) := by rw [← sW_perm hp, sW_app, sW_one]
        have h7 := Rat.mul_nonneg lam0 h6
        rw [e] at el
        grind
      refine ⟨iz.nn, le, .inr ⟨lam, nW os todo, st, N0, N9, il2, ?_, set_in (fun q hq => (ig q hq).up (Nat.dvd_mul_right _ _)) iz⟩⟩
      exact (il.up (Nat.dvd_mul_right _ _)).sub iz le
  · have bk := I.big kk hm
    have hp := rest_perm (perm_nd I.perm) hm
    have el := I.left_
    have ev : left * (wq os kk / sW os todo) = wq os kk * lam := by
      rw [← el]
      grind
    have eg : lmin (hk os kk) (left * (wq os kk / sW os todo)) = wq os kk * lam := by
      rw [ev]
      generalize wq os kk * lam = z at *
      unfold lmin
      grind
    rw [eg]
    have iz : In (E * h0) M (wq os kk * lam) := (ilam.mulN (wk os kk)).of_le (Rat.le_trans (by show ((wk os kk : Nat) : Rat) * lam ≤ _; exact Rat.le_of_lt bk) (hk_in W.ok kk).le)
    have le : wq os kk * lam ≤ left := by
      have h6 := sW_nn W.ok (todo.filter fun k => !decide (k = kk))
      have e : sW os todo = wq os kk + sW os (todo.filter fun k => !decide (k = kk)) := by rw [← sW_perm hp, sW_app, sW_one]
      have h7 := Rat.mul_nonneg I.l0 h6
      rw [e] at el
      grind
    exact ⟨iz.nn, le, .inr ⟨lam, h0, I.step hm, hh, h120, ilam, il.sub iz le, set_in ig iz⟩⟩
theorem XJ.all (E0 : 0 < E) (E9 : E ≤ 2 ^ 140) (I : XJ os E M B S left done [] gs) : Filled os S gs ∧ ∃ X, 0 < X ∧ X ≤ 2 ^ 150 ∧ ∀ q ∈ gs, In X M q := by
  rcases I with ⟨I, _, ig⟩ | ⟨lam, h0, I, hh, h120, _, _, ig⟩
  · exact ⟨I.all, E, E0, Nat.le_trans E9 (by decide), ig⟩
  · exact ⟨I.all, E * h0, Nat.mul_pos E0 hh, Nat.le_trans (Nat.mul_le_mul E9 h120) (by decide), ig⟩
theorem XJ.perm (I : XJ os E M B S left done todo gs) : (done ++ todo).Perm (List.range os.length) := by
  rcases I with ⟨I, _⟩ | ⟨_, _, I, _⟩
  · exact I.perm
  · exact I.perm
theorem XJ.sz (W : SpOk D E M B os S) (I : XJ os E M B S left done todo gs) : Sz 4000 left ∧ 0 ≤ left := by
  rcases I with ⟨_, il, _⟩ | ⟨_, h0, _, hh, h120, _, il, _⟩
  · exact ⟨(il.sz W.E0 W.E9 W.B9).mono (by decide), il.nn⟩
  · exact ⟨(il.sz (j := 147) (Nat.mul_pos W.E0 hh) (Nat.le_trans (Nat.mul_le_mul W.E9 h120) (by decide)) W.B9).mono (by decide), il.nn⟩
end
end Yk

set_option maxHeartbeats 8000000
namespace Yk
open PySem PySem.Spec PyProof.Rows L2 LamX

/-! The law's own filling: the lowest height first. -/
section
variable {K : PySem.W.Frag} {H H1 : Hp}
theorem Am.e {v : V} {q : Rat} (e : ExtN H H1) (h : Am K H v q) : Am K H1 v q := by
  obtain ⟨a, rfl, h⟩ := h
  exact ⟨a, rfl, tupE e h⟩
theorem Ams.e {vs : List V} {qs : List Rat} (e : ExtN H H1) (h : Ams K H vs qs) : Ams K H1 vs qs := ⟨h.1, fun i v q a b => (h.2 i v q a b).e e⟩
theorem WantIs.e {v : V} {o : Want} (e : ExtN H H1) (h : WantIs K H v o) : WantIs K H1 v o := by
  obtain ⟨a, hv, rfl, h1, h2⟩ := h
  exact ⟨a, hv, rfl, tupE e h1, h2.e e⟩
theorem WantsIs.e {xs : List V} {os : List Want} (e : ExtN H H1) (h : WantsIs K H xs os) : WantsIs K H1 xs os := h.imp fun _ _ z => z.e e
theorem extN_of (e : Ext [] H H1) : ExtN H H1 := fun b o h _ => e b o h fun z => nomatch z
/-- pairs of an index and its want -/
def PrIs (K : PySem.W.Frag) (H : Hp) (xs : List V) (v : V) (k : Nat) : Prop := ∃ a u, v = .ref a ∧ SqT K H a [.int (k : Int), u] ∧ xs[k]? = some u
def PrsIs (K : PySem.W.Frag) (H : Hp) (xs : List V) (vs : List V) (ks : List Nat) : Prop := Rel (PrIs K H xs) vs ks
theorem PrsIs.x0 {xs vs : List V} {ks : List Nat} (e : Ext [] H H1) (h : PrsIs K H xs vs ks) : PrsIs K H1 xs vs ks := h.imp fun _ _ ⟨a, u, e1, e2, e3⟩ => ⟨a, u, e1, tup0 e e2, e3⟩
theorem PrsIs.w {xs vs : List V} {ks : List Nat} {c : Addr} {l l' : List V} (h : H c = some (.lst l)) (g : PrsIs K H xs vs ks) : PrsIs K (upd H c (.lst l')) xs vs ks := g.imp fun _ _ ⟨a, u, e1, e2, e3⟩ => ⟨a, u, e1, tupW e2 h, e3⟩
theorem PrsIs.e {xs vs : List V} {ks : List Nat} (e : ExtN H H1) (h : PrsIs K H xs vs ks) : PrsIs K H1 xs vs ks := h.imp fun _ _ ⟨a, u, e1, e2, e3⟩ => ⟨a, u, e1, tupE e e2, e3⟩
end
theorem lt_cross2 (p q : Rat) (u v : Nat) : p.num * (q.den : Int) * (u : Int) < q.num * (p.den : Int) * (v : Int) ↔ p * (u : Rat) < q * (v : Rat) := by
  have hp : (p.num : Rat) = p * (p.den : Rat) := by
    have h := div_mul (g := (p.num : Rat)) (natP p.den_pos)
    rw [← Rat.mkRat_eq_div, Rat.mkRat_self] at h
    exact h.symm
  have hq : (q.num : Rat) = q * (q.den : Rat) := by
    have h := div_mul (g := (q.num : Rat)) (natP q.den_pos)
    rw [← Rat.mkRat_eq_div, Rat.mkRat_self] at h
    exact h.symm
  have d0 : (0 : Rat) < (p.den : Rat) * (q.den : Rat) := Rat.mul_pos (natP p.den_pos) (natP q.den_pos)
  have e1 : ((p.num * (q.den : Int) * (u : Int) : Int) : Rat) = p * (u : Rat) * ((p.den : Rat) * (q.den : Rat)) := by push_cast; rw [hp]; grind
  have e2 : ((q.num * (p.den : Int) * (v : Int) : Int) : Rat) = q * (v : Rat) * ((p.den : Rat) * (q.den : Rat)) := by push_cast; rw [hq]; grind
  rw [← Rat.intCast_lt_intCast, e1, e2]
  constructor
  · intro h
    refine Rat.not_le.mp fun z => ?_
    have := Rat.mul_le_mul_of_nonneg_right z (Rat.le_of_lt d0)
    grind
  · intro h
    have := Rat.mul_pos (a := q * (v : Rat) - p * (u : Rat)) (b := (p.den : Rat) * (q.den : Rat)) (by grind) d0
    grind
theorem XJ.in_ {os : List Want} {D E M B : Nat} {S left : Rat} {done todo : List Nat} {gs : List Rat} (W : SpOk D E M B os S) (I : XJ os E M B S left done todo gs) : ∃ X, 0 < X ∧ X ≤ 2 ^ 147 ∧ In X B left := by
  rcases I with ⟨_, il, _⟩ | ⟨_, h0, _, hh, h120, _, il, _⟩
  · exact ⟨E, W.E0, Nat.le_trans W.E9 (by decide), il⟩
  · exact ⟨E * h0, Nat.mul_pos W.E0 hh, Nat.le_trans (Nat.mul_le_mul W.E9 h120) (by decide), il⟩
theorem dp_prs {K : PySem.W.Frag} {H : Hp} {xs : List V} {os : List Want} (hw : WantsIs K H xs os) : ∀ {vs : List V} {ks : List Nat}, PrsIs K H xs vs ks → ∃ ds, DpAll K H vs ds ∧ PyData.canLayAll0 ds = true ∧ PyData.depthAll ds ≤ 3 ∧ ds.length = ks.length
  | [], [], _ => ⟨[], .nil, rfl, by simp [PyData.depthAll], rfl⟩
  | v :: vs, k :: ks, h => by
    obtain ⟨a, u, rfl, ht, hu⟩ := h.2 0 v k rfl rfl
    obtain ⟨o, _, b, hv, rfl, ht2, ha⟩ := hw.at_ hu
    have h2 : PrsIs K H xs vs ks := ⟨by simpa using h.1, fun i w u a b => h.2 (i + 1) w u (by simpa using a) (by simpa using b)⟩
    obtain ⟨ds, b1, b2, b3, b4⟩ := dp_prs hw h2
    exact ⟨_ :: ds, .cons (.tup ht (.cons (.int _) (.cons (.tup ht2 (.cons (.int _) (.cons (dp_am ha) .nil))) .nil))) b1, by simp [PyData.canLayAll0, PyData.canLay0, b2], by simp [PyData.depthAll, PyData.depth]; omega, by simp [b4]⟩
  | [], _ :: _, h => absurd h.1 (by simp)
  | _ :: _, [], h => absurd h.1 (by simp)
theorem ne_nil {K : PySem.W.Frag} {H : Hp} {Q : VK} {c p : Addr} {xs : List V} {ds : List PyData} {n : Nat} (h : DpAll K H xs ds) (h1 : PyData.canLayAll0 ds = true) (h2 : PyData.depthAll ds ≤ 3) (hn : ds.length = n) (hc : SqL K H c xs) (hp : SqL K H p []) (k : Q (.bl (!decide (n = 0))) H) : rNeD K (.ref c) (.ref p) H Q := by
  refine ⟨.list ds, .list [], .lst hc h, .lst hp .nil, ?_, rfl, ?_⟩
  · simp [SeqAt.shaped, PyData.canLay0, h1, PyData.depth]
    omega
  · have e : PyData.eqv (.list ds) (.list []) = decide (n = 0) := by
      cases ds with
      | nil => simp at hn; subst hn; rfl
      | cons d ds => simp at hn; subst hn; rfl
    rw [e]
    exact k
section
variable {P : Program} {w : World} {K : PySem.W.Frag} {mg : Str → Option Value} {base : Heap} {f : Addr} {fd : FuncData}
def spExtrasN (P0 : Addr) (K : PySem.W.Frag) : Sp := fun vs H Q _ => ∃ (s : V) (a : Addr) (xs : List V) (os : List Want) (D E M B : Nat) (S : Rat), vs = [s, .ref a] ∧ SqL K H a xs ∧ WantsIs K H xs os ∧ Am K H s S ∧ SpOk D E M B os S ∧ H P0 = some (.tbl #[]) ∧
  ∀ (c : Addr) (zs : List V) (gs : List Rat) (X : Nat) H', Filled os S gs → 0 < X → X ≤ 2 ^ 150 → (∀ q ∈ gs, In X M q) → H c = none → H' c = some (.lst zs) → Ams K H' zs gs → ExtN H H' → Q (.ref c) H'
abbrev s_law_extras : Stmt := top 47
theorem c_law_extras : FnScope ["_law_left", "_law_wants", "_law_found", "_law_want", "_law_order", "_law_k", "_law_lowest", "_law_pair", "_law_heavy", "_law_given"] ["_law_left", "_law_wants"] (defScope s_law_extras) := ⟨rfl, rfl, rfl, by decide +kernel, rfl, by decide +kernel, by decide +kernel⟩
theorem f_law_extras (F : FunD K "_law_extras" "_law_extras" (defArgs s_law_extras) (defBody s_law_extras) (defScope s_law_extras) [] [] f fd) (hm : mg "_law_extras" = some (.ref f)) {c0 P0 : Addr} (hC : fd.code = .ref c0) (TBc : TabB base mg c0 P0) (Tsorted : mg "sorted" = none) (T : Bt mg) (F_law_rest : Fn P w K mg base 2 "_law_rest" (sp2 (fun _ _ => True) restQ K)) (F_law_min : Fn P w K mg base 2 "_law_min" (sp2 (fun _ _ => True) lmin K)) (F_law_scaled : Fn P w K mg base 2 "_law_scaled" (spScaled K)) : Fn P w K mg base 4 "_law_extras" (spExtrasN P0 K) := by
  refine fn_defC F hm hC c_law_extras (fun vs H Q E h => ?_) (fun _ _ _ _ _ _ us hl => match us, hl with | [_, _], _ => rfl) (fun A outer s H vs Q E hr h => ?_)
  · obtain ⟨s, a, xs, os, D, E, M, B, S, rfl, _⟩ := h
    rfl
  · obtain ⟨s, a, xs, os, D, E, M, B, S, rfl, ha, hos, hs, W, htb, k⟩ := h
    have nd := c_law_extras.nd
    refine ⟨_, (pss_cons (ps_setLc (i := 2) (own := [("_law_want", 3)]) (g := gName 3) rfl nd rfl rfl (sw_true rfl rfl rfl (by decide +kernel)) (pi_list (pv 1)) (blkOk_by (N := ["_law_left", "_law_wants", "_law_found", "_law_want", "_law_order", "_law_k", "_law_lowest", "_law_pair", "_law_heavy", "_law_given"]) (sc := defScope s_law_extras) (by decide +kernel)) (fun _ _ _ _ _ => pg_name (i := 3) nd rfl (Or.inl rfl)) (fun _ _ _ _ _ => pts_nil) (fun _ _ _ _ _ => (pe_tup (pa_cons pe_int (pa_cons pe_int pa_nil)))))
      (pss_cons (ps_set (i := 4) nd rfl (by first | exact Or.inl rfl | exact Or.inr rfl) (pe_sortL (k := 0) (x := "_law_pair") (T := CT P0) (by rfl) Tsorted (pe_lc (own := [("_law_k", 5)]) (g := gName 5) rfl nd (pi_range1 rfl T.range (pa_cons (pe_callB cr_len (by rfl) T.len (by decide +kernel) (pa_cons (pv 1) pa_nil)) pa_nil)) (blkOk_by (N := ["_law_left", "_law_wants", "_law_found", "_law_want", "_law_order", "_law_k", "_law_lowest", "_law_pair", "_law_heavy", "_law_given"]) (sc := defScope s_law_extras) (by decide +kernel)) (fun _ _ _ _ _ => pg_name (i := 5) nd rfl (Or.inl rfl)) (fun _ _ _ _ _ => pts_nil) (fun _ _ _ _ _ => (pe_tup (pa_cons (pv 5) (pa_cons (pe_ix ix_list (pv 1) (pv 5) (fun _ _ => rfl) : PE _ _ (tOp (rIxL K) _ _)) pa_nil))))) TBc rfl (List.mem_singleton.mpr rfl) (fun p hp _ => by rw [List.mem_singleton.mp hp]; rfl) (hr.mono (by decide)) (lam1_by (by decide +kernel)) rfl (fun _ _ _ _ _ => rfl) rfl))
      (pss_cons (ps_while PassesOwn.never (pt_cmpR (op_neD hr.units) (pv 4) (pe_lst pa_nil) (nomark _))
        (pss_cons (ps_set (i := 6) nd rfl (by first | exact Or.inl rfl | exact Or.inr rfl) (pe_ix ix_list (pv 4) pe_int (fun _ _ => rfl)))
        (pss_mid (ps_for PassesOwn.never rfl (pi_list (pv 4)) (pg_name (i := 7) nd rfl (by first | exact Or.inl rfl | exact Or.inr rfl))
          (pss_one (ps_if (pt_cmpR op_lt (pe_op op_mulW (pe_op op_mulW (pe_ix ix_tup (pe_ix ix_tup (pe_ix ix_tup (pv 7) pe_int (fun _ _ => rfl)) pe_int (fun _ _ => rfl)) pe_int (fun _ _ => rfl)) (pe_ix ix_tup (pe_ix ix_tup (pe_ix ix_tup (pv 6) pe_int (fun _ _ => rfl)) pe_int (fun _ _ => rfl)) pe_int (fun _ _ => rfl))) (pe_ix ix_tup (pe_ix ix_tup (pv 6) pe_int (fun _ _ => rfl)) pe_int (fun _ _ => rfl))) (pe_op op_mulW (pe_op op_mulW (pe_ix ix_tup (pe_ix ix_tup (pe_ix ix_tup (pv 6) pe_int (fun _ _ => rfl)) pe_int (fun _ _ => rfl)) pe_int (fun _ _ => rfl)) (pe_ix ix_tup (pe_ix ix_tup (pe_ix ix_tup (pv 7) pe_int (fun _ _ => rfl)) pe_int (fun _ _ => rfl)) pe_int (fun _ _ => rfl))) (pe_ix ix_tup (pe_ix ix_tup (pv 7) pe_int (fun _ _ => rfl)) pe_int (fun _ _ => rfl))) (nomark _))
            (pss_one (ps_set (i := 6) nd rfl (by first | exact Or.inl rfl | exact Or.inr rfl) (pv 7)))
            pss_nil)))
        (pss_cons (ps_set (i := 8) nd rfl (by first | exact Or.inl rfl | exact Or.inr rfl) (pe_callB (cr_sum rfl) (by rfl) T.sum (by decide +kernel) (pa_cons (pe_lc (own := [("_law_pair", 7)]) (g := gName 7) rfl nd (pi_list (pv 4)) (blkOk_by (N := ["_law_left", "_law_wants", "_law_found", "_law_want", "_law_order", "_law_k", "_law_lowest", "_law_pair", "_law_heavy", "_law_given"]) (sc := defScope s_law_extras) (by decide +kernel)) (fun _ _ _ _ _ => pg_name (i := 7) nd rfl (Or.inl rfl)) (fun _ _ _ _ _ => pts_nil) (fun _ _ _ _ _ => (pe_ix ix_tup (pe_ix ix_tup (pv 7) pe_int (fun _ _ => rfl) : PE _ _ (tOp (rIxT K) _ _)) pe_int (fun _ _ => rfl) : PE _ _ (tOp (rIxT K) _ _)))) pa_nil)))
        (pss_cons (ps_set (i := 9) nd rfl (by first | exact Or.inl rfl | exact Or.inr rfl) (pe_fn F_law_min (hr.mono (by decide)) (pa_cons (pe_ix ix_tup (pe_ix ix_tup (pv 6) pe_int (fun _ _ => rfl)) pe_int (fun _ _ => rfl)) (pa_cons (pe_fn F_law_scaled (hr.mono (by decide)) (pa_cons (pv 0) (pa_cons (pe_ix ix_tup (pe_ix ix_tup (pv 6) pe_int (fun _ _ => rfl)) pe_int (fun _ _ => rfl)) (pa_cons (pv 8) pa_nil)))) pa_nil))))
        (pss_cons (ps_asg (pv 9) (pg_sub (pv 2) (pe_ix ix_tup (pv 6) pe_int (fun _ _ => rfl)) set_list))
        (pss_cons (ps_set (i := 0) nd rfl (by first | exact Or.inl rfl | exact Or.inr rfl) (pe_fn F_law_rest (hr.mono (by decide)) (pa_cons (pv 0) (pa_cons (pv 9) pa_nil))))
        (pss_one (ps_setLc (i := 4) (own := [("_law_pair", 7)]) (g := gName 7) rfl nd rfl rfl (sw_true rfl rfl rfl (by decide +kernel)) (pi_list (pv 4)) (blkOk_by (N := ["_law_left", "_law_wants", "_law_found", "_law_want", "_law_order", "_law_k", "_law_lowest", "_law_pair", "_law_heavy", "_law_given"]) (sc := defScope s_law_extras) (by decide +kernel)) (fun _ _ _ _ _ => pg_name (i := 7) nd rfl (Or.inl rfl)) (fun _ _ _ _ _ => (pts_one (pt_cmpR op_ne (pe_ix ix_tup (pv 7) pe_int (fun _ _ => rfl) : PE _ _ (tOp (rIxT K) _ _)) (pe_ix ix_tup (pv 6) pe_int (fun _ _ => rfl) : PE _ _ (tOp (rIxT K) _ _)) (nomark _)))) (fun _ _ _ _ _ => (pv 7)))))))))))
      (pss_one (ps_ret (pv 2)))))), ?_⟩
    show (_ : TS) _ [some _, some _, none, none, none, none, none, none, none, none] _
    try dsimp only [cxOf, Cx.nox]
    have ln := W.n
    have lx := hos.1
    walk_at "go"
    refine ⟨a, rfl, ⟨_, ha⟩, fun D1 hD1 => ?_⟩
    refine r_lcL (xs := xs) (fun i H1 => ∃ acc : List V, H1 D1 = some (.lst acc) ∧ Ams K H1 acc (List.replicate i 0) ∧ Ext [] H H1) ⟨[], upd_same, Ams.nil, Ext.refl.new hD1⟩ ?_ ?_ ?_
    · rintro i H1 hi ⟨acc, _, _, e⟩
      exact lst0 e ha
    · rintro j y H1 hy ⟨acc, hacc, hams, e1⟩
      have hil := (List.getElem?_eq_some_iff.mp hy).1
      have hl := hams.1
      rw [List.length_replicate] at hl
      walk_at "go"
      refine ⟨rfl, ?_⟩
      walk_at "go"
      rename_i p hp
      have m := (Ext.refl (S := []) (H := H1)).new (o := .tup [.int 0, .int 1]) hp
      have hac := m _ _ hacc fun z => nomatch z
      have tz : Am K (upd H1 p (.tup [.int 0, .int 1])) (.ref p) 0 := ⟨p, rfl, tupS⟩
      refine ⟨acc, hac, Nat.lt_of_le_of_lt (by omega : acc.length ≤ 4000) (by decide), acc ++ [.ref p], upd_same, ?_, (e1.trans m).own hD1⟩
      rw [List.replicate_succ']
      exact ((hams.x0 m).w hac).app (Ams.cons (tz.w hac) Ams.nil)
    · rintro H1 ⟨zs0, hzs0, hams0, e1⟩
      walk_at "go"
      refine r_sortL ?_
      walk_at "go"
      try refine r_len (.inl (lst0 e1 ha)) ?_
      walk_at "go"
      refine ⟨_, rfl, by omega, by omega, fun D2 hD2 => ?_⟩
      refine r_lcR (n := xs.length) (fun i H2 => ∃ vs : List V, H2 D2 = some (.lst vs) ∧ PrsIs K H2 xs vs (List.range i) ∧ Ext [] H1 H2) ⟨[], upd_same, Rel.nil, Ext.refl.new hD2⟩ ?_ ?_
      · rintro i H2 hi ⟨vs, h2, ps, n2⟩
        have hv := List.getElem?_eq_getElem hi
        generalize xs[i]'hi = u at hv
        have hl := ps.1
        rw [List.length_range] at hl
        walk_at "go"
        refine ⟨rfl, ?_⟩
        walk_at "go"
        refine r_ixL (lst0 (e1.trans n2) ha) (at_n (n := i) (by rw [Int.zero_add]) hv) ?_
        walk_at "go"
        rename_i p hp
        have m := (Ext.refl (S := []) (H := H2)).new (o := .tup [.int (0 + (i : Int)), u]) hp
        have hac := m _ _ h2 fun z => nomatch z
        refine ⟨vs, hac, Nat.lt_of_le_of_lt (by omega : vs.length ≤ 4000) (by decide), vs ++ [.ref p], upd_same, ?_, (n2.trans m).own hD2⟩
        rw [List.range_succ]
        exact Rel.snoc ((ps.x0 m).w hac) ⟨p, u, rfl, tupW (by rw [Int.zero_add]; exact tupS) hac, hv⟩
      · rintro H2 ⟨vs, h2, ps, n2⟩
        have e2 := e1.trans n2
        have hl := ps.1
        rw [List.length_range] at hl
        walk_at "go"
        refine ⟨fun p hp => by rw [List.mem_singleton.mp hp]; exact TabS.nil (e2 _ _ htb fun z => nomatch z), fun H3 x3 _ => ⟨D2, vs, (List.range xs.length).map fun k : Nat => (k : Int), rfl, lstE x3 (.inl (.inl h2)), ⟨by rw [List.length_map, List.length_range]; exact hl, fun i v k' e e' => ?_⟩, ?_, fun c3 hc3 => ?_⟩⟩
        · obtain ⟨k2, hk2, a', u, rfl, ht, _⟩ := ps.at_ e
          rw [List.getElem?_map, hk2] at e'
          cases e'
          exact ⟨a', _, rfl, tupE x3 ht⟩
        · rw [List.pairwise_map]
          exact List.pairwise_le_range.imp fun h => by exact_mod_cast h
        · have m4 := (Ext.refl (S := []) (H := H3)).new (o := .lst vs) hc3
          have h24 : upd H3 c3 (.lst vs) c3 = some (.lst vs) := upd_same
          have x4 : ExtN H (upd H3 c3 (.lst vs)) := (extN_of e2).trans (x3.trans (extN_of m4))
          have ps4 : PrsIs K (upd H3 c3 (.lst vs)) xs vs (List.range xs.length) := (ps.e x3).x0 m4
          have h14 : upd H3 c3 (.lst vs) D1 = some (.lst zs0) := m4 _ _ (x3 _ _ (n2 _ _ hzs0 fun z => nomatch z) fun _ z => nomatch z) fun z => nomatch z
          have nd : c3 ≠ D1 := fun z => by rw [z] at hc3; rw [x3 _ _ (n2 _ _ hzs0 fun z => nomatch z) fun _ z => nomatch z] at hc3; cases hc3
          have ams4 : Ams K (upd H3 c3 (.lst vs)) zs0 (List.replicate xs.length 0) := ((hams0.x0 n2).e x3).x0 m4
          have ha4 := lstE x4 ha
          have hos4 := hos.e x4
          have hs4 := hs.e x4
          generalize upd H3 c3 (.lst vs) = H4 at *
          clear x3 ps h2 hD2 n2 e2 e1 hzs0 hams0 m4 hc3
          walk_at "go"
          refine r_while (fun m σ' H' => ∃ (D4 : Addr) (zs ws : List V) (gs : List Rat) (done todo : List Nat) (lv : V) (left : Rat) (u3 u5 u6 u7 u8 u9 : Option V), σ' = [some lv, some (.ref a), some (.ref D1), u3, some (.ref D4), u5, u6, u7, u8, u9] ∧ H' D1 = some (.lst zs) ∧ D4 ≠ D1 ∧ H' D4 = some (.lst ws) ∧ PrsIs K H' xs ws todo ∧ Ams K H' zs gs ∧ gs.length = os.length ∧ Am K H' lv left ∧ XJ os E M B S left done todo gs ∧ todo.length = m ∧ Ext [D1] H4 H')
            xs.length ⟨c3, zs0, vs, _, [], List.range xs.length, s, S, _, _, _, _, _, _, rfl, h14, nd, h24, ps4, ams4, by rw [List.length_replicate]; exact lx, hs4, .inl ⟨by rw [lx]; exact XI.zero W.goal.nn (by rw [List.length_replicate]), W.goal, fun q hq => by rw [List.eq_of_mem_replicate hq]; exact In.zero⟩, by rw [List.length_range], Ext.refl⟩ ?_
          rintro m σ' H5 ⟨D4, zs, ws, gs, done, todo, lv, left, u3, u5, u6, u7, u8, u9, rfl, hz, n41, h5, ps, ams, lgs, al, I, rfl, e5⟩
          walk_at "go"
          rename_i pe hpe
          have m6 := (Ext.refl (S := []) (H := H5)).new (o := .lst []) hpe
          have hle : SqL K (upd H5 pe (.lst [])) pe [] := lstS
          have e6 := e5.trans m6.of0
          have hz6 := m6 _ _ hz fun z => nomatch z
          have h46 := m6 _ _ h5 fun z => nomatch z
          have ps6 := ps.x0 m6
          have ams6 := ams.x0 m6
          have al6 := al.x0 m6
          generalize upd H5 pe (.lst []) = H6 at *
          have hos6 := hos4.x e6 fun b hb => by rw [List.mem_singleton.mp hb]; exact ⟨_, h14⟩
          obtain ⟨ds, d1, d2, d3, d4⟩ := dp_prs hos6 ps6
          refine ne_nil d1 d2 d3 d4 (.inl (.inl h46)) hle ?_
          walk_at "go"
          have ltd : todo.length ≤ os.length := by
            have h := I.perm.length_eq
            rw [List.length_append, List.length_range] at h
            omega
          have lws := ps6.1
          have lzs := ams6.1
          refine r_ndec (fun hne => ?_) (fun heq => ?_)
          · refine ⟨fun σ' H' => ∃ (D4 : Addr) (zs ws : List V) (gs : List Rat) (done' todo' : List Nat) (lv : V) (left : Rat) (u3 u5 u6 u7 u8 u9 : Option V), σ' = [some lv, some (.ref a), some (.ref D1), u3, some (.ref D4), u5, u6, u7, u8, u9] ∧ H' D1 = some (.lst zs) ∧ D4 ≠ D1 ∧ H' D4 = some (.lst ws) ∧ PrsIs K H' xs ws todo' ∧ Ams K H' zs gs ∧ gs.length = os.length ∧ Am K H' lv left ∧ XJ os E M B S left done' todo' gs ∧ todo'.length < todo.length ∧ Ext [D1] H4 H', ?_, ?_⟩
            · rintro σ' H' ⟨D4, zs, ws, gs, done', todo', lv, left, u3, u5, u6, u7, u8, u9, rfl, g1, g2, g3, g4, g5, g6, g7, g8, g9, g10⟩
              exact ⟨todo'.length, g9, D4, zs, ws, gs, done', todo', lv, left, u3, u5, u6, u7, u8, u9, rfl, g1, g2, g3, g4, g5, g6, g7, g8, rfl, g10⟩
            · have hn0 : 0 < todo.length := by omega
              have hv0 := List.getElem?_eq_getElem (show 0 < ws.length by omega)
              generalize ws[0]'(by omega) = v0 at hv0
              walk_at "go"
              refine r_ixL (.inl (.inl h46)) (at_n (n := 0) rfl hv0) ?_
              have pr : ∀ {i : Nat} {v : V} {H' : Hp}, ws[i]? = some v → Ext [] H6 H' → ∃ (pa wa : Addr) (hv : V) (kk : Nat) (o : Want), v = .ref pa ∧ todo[i]? = some kk ∧ kk ∈ todo ∧ SqT K H' pa [.int (kk : Int), .ref wa] ∧ SqT K H' wa [.int (o.w : Int), hv] ∧ Am K H' hv o.h ∧ wk os kk = o.w ∧ hk os kk = o.h ∧ wq os kk = (o.w : Rat) ∧ WantOk D M o ∧ kk < os.length := fun {i v H'} hv e => by
                obtain ⟨kk, hkk, pa, u, rfl, ht, hu⟩ := ps6.at_ hv
                obtain ⟨o, ho, wa, hv', rfl, ht2, ha2⟩ := hos6.at_ hu
                obtain ⟨g1, g2⟩ := get_wh ho
                exact ⟨pa, wa, hv', kk, o, rfl, hkk, List.mem_of_getElem? hkk, tup0 e ht, tup0 e ht2, ha2.x0 e, g1, g2, by unfold wq; rw [g1], W.ok o (List.mem_of_getElem? ho), (List.getElem?_eq_some_iff.mp ho).1⟩
              walk_at "go"
              refine r_mid (fun σ' H' => ∃ (kk : Nat) (i : Nat) (v : V) (u7 : Option V), σ' = [some lv, some (.ref a), some (.ref D1), u3, some (.ref D4), u5, some v, u7, u8, u9] ∧ ws[i]? = some v ∧ todo[i]? = some kk ∧ (∀ j ∈ todo, hk os kk * wq os j ≤ hk os j * wq os kk) ∧ H' = H6) ?_ ?_
              · walk_at "go"
                refine r_for ?_
                walk_at "go"
                refine ⟨D4, rfl, ⟨_, .inl (.inl h46)⟩, ?_⟩
                refine r_loopL (xs := ws) (fun n σ' H' => ∃ (kk : Nat) (i : Nat) (v : V) (u7 : Option V), σ' = [some lv, some (.ref a), some (.ref D1), u3, some (.ref D4), u5, some v, u7, u8, u9] ∧ ws[i]? = some v ∧ todo[i]? = some kk ∧ (∀ j ∈ todo.take n, hk os kk * wq os j ≤ hk os j * wq os kk) ∧ H' = H6)
                  ⟨todo[0], 0, v0, _, rfl, hv0, List.getElem?_eq_getElem hn0, (fun j hj => absurd hj (by simp)), rfl⟩ ?_ ?_ ?_
                · rintro i σ' H' hi ⟨_, _, _, _, rfl, _, _, _, rfl⟩
                  exact .inl (.inl h46)
                · rintro i y σ' H7 hy ⟨kk, i0, v, u7, rfl, hv, hkk, hmin, rfl⟩
                  obtain ⟨pa, wa, hv1, kk1, o1, rfl, g0, g1, g2, g3, g4, g5, g6, g7, g8, g9⟩ := pr hv Ext.refl
                  rw [hkk] at g0
                  cases g0
                  obtain ⟨pb, wb, hv2, jj, o2, rfl, f0, f1, f2, f3, f4, f5, f6, f7, f8, f9⟩ := pr hy Ext.refl
                  obtain ⟨aa, rfl, g4'⟩ := g4
                  obtain ⟨ab, rfl, f4'⟩ := f4
                  have z1 : Sz 165 o1.h := (g8.h.up W.dE).sz W.E0 W.E9 W.M9
                  have z2 : Sz 165 o2.h := (f8.h.up W.dE).sz W.E0 W.E9 W.M9
                  have c1 : CMulW o2.h.num (o1.h.den : Int) := cmul z2.1 (szd z1) (by decide) (by decide) (by decide)
                  have c2 : CMulW o1.h.num (o2.h.den : Int) := cmul z1.1 (szd z2) (by decide) (by decide) (by decide)
                  have w1 : ((o1.w : Nat) : Int).natAbs < 2 ^ 4 := Nat.lt_of_le_of_lt (by rw [Int.natAbs_natCast]; exact g8.w12) (by decide)
                  have w2 : ((o2.w : Nat) : Int).natAbs < 2 ^ 4 := Nat.lt_of_le_of_lt (by rw [Int.natAbs_natCast]; exact f8.w12) (by decide)
                  have c3 : CMulW (o2.h.num * (o1.h.den : Int)) (o1.w : Int) := cmul (mulz z2.1 (szd z1)) w1 (by decide) (by decide) (by decide)
                  have c4 : CMulW (o1.h.num * (o2.h.den : Int)) (o2.w : Int) := cmul (mulz z1.1 (szd z2)) w2 (by decide) (by decide) (by decide)
                  have wk0 := wq0 W.ok kk
                  have wj0 := wq0 W.ok jj
                  walk_at "go"
                  refine r_dec (fun hlt => ?_) (fun hlt => ?_)
                  · have hlt := (lt_cross2 _ _ _ _).mp hlt
                    rw [← g7, ← f6, ← g6, ← f7] at hlt
                    walk_at "go"
                    refine ⟨jj, i, _, _, rfl, hy, f0, fun j hj => ?_, rfl⟩
                    rw [take_snoc f0] at hj
                    rcases List.mem_append.mp hj with h | h
                    · have h1 := hmin j h
                      have h2 := wq0 W.ok j
                      refine cancel_le (T := wq os kk) (by grind) ?_
                      have h3 : hk os jj * wq os kk * wq os j ≤ hk os kk * wq os jj * wq os j := Rat.mul_le_mul_of_nonneg_right (Rat.le_of_lt hlt) (by grind)
                      have h4 : hk os kk * wq os j * wq os jj ≤ hk os j * wq os kk * wq os jj := Rat.mul_le_mul_of_nonneg_right h1 (by grind)
                      grind
                    · rw [List.mem_singleton.mp h]
                      exact Rat.le_refl
                  · have hlt : ¬ (hk os jj * wq os kk < hk os kk * wq os jj) := fun z => hlt ((lt_cross2 _ _ _ _).mpr (by rw [← g7, ← f6, ← g6, ← f7]; exact z))
                    walk_at "go"
                    refine ⟨kk, i0, _, _, rfl, hv, hkk, fun j hj => ?_, rfl⟩
                    rw [take_snoc f0] at hj
                    rcases List.mem_append.mp hj with h | h
                    · exact hmin j h
                    · rw [List.mem_singleton.mp h]
                      exact Rat.not_lt.mp hlt
                · rintro σ' H7 ⟨kk, i, v, u7, rfl, hv, hkk, hmin, rfl⟩
                  rw [show ws.length = todo.length from lws, List.take_length] at hmin
                  exact ⟨kk, i, v, u7, rfl, hv, hkk, hmin, rfl⟩
              · rintro σ' H7 ⟨kk, i, v, u7, rfl, hv, hkk, hmin, rfl⟩
                obtain ⟨pa, wa, hv1, kk1, o1, rfl, g0, gm, g2, g3, g4, g5, g6, g7, g8, g9⟩ := pr hv Ext.refl
                rw [hkk] at g0
                cases g0
                have T0 := sW_pos W.ok (List.ne_nil_of_mem gm)
                have N0 : 0 < nW os todo := by
                  have h := T0
                  rw [← nW_q] at h
                  exact_mod_cast h
                have N9 : nW os todo ≤ 120 := by
                  have h1 := nW_le W.ok todo
                  omega
                walk_at "go"
                refine ⟨D4, rfl, ⟨_, .inl (.inl h46)⟩, fun D5 hD5 => ?_⟩
                refine r_lcL (xs := ws) (fun i H1 => H1 D5 = some (.lst ((todo.take i).map fun k => V.int ((wk os k : Nat) : Int))) ∧ Ext [] H7 H1) ⟨upd_same, Ext.refl.new hD5⟩ ?_ ?_ ?_
                · rintro i H1 hi ⟨_, n1⟩
                  exact lst0 n1 (.inl (.inl h46))
                · rintro i y H1 hy ⟨h5, n1⟩
                  obtain ⟨pb, wb, hv2, jj, o2, rfl, f0, f1, f2, f3, f4, f5, f6, f7, f8, f9⟩ := pr hy n1
                  have hil := (List.getElem?_eq_some_iff.mp hy).1
                  walk_at "go"
                  refine ⟨rfl, ?_⟩
                  walk_at "go"
                  refine ⟨_, h5, by rw [List.length_map, List.length_take]; exact Nat.lt_of_le_of_lt (by omega : min i todo.length ≤ 4000) (by decide), ?_, n1.own hD5⟩
                  rw [take_map' f0, f5]
                  exact upd_same
                · rintro H8 ⟨h5, n8⟩
                  rw [show ws.length = todo.length from lws, List.take_length] at h5
                  walk_at "go"
                  refine ⟨D5, todo.map (fun k => ((wk os k : Nat) : Int)), rfl, .inl (.inl (by rw [List.map_map]; exact h5)), ?_⟩
                  rw [nW_i]
                  have g28 := tup0 n8 g2
                  have g38 := tup0 n8 g3
                  have g48 := g4.x0 n8
                  have al8 := al6.x0 n8
                  obtain ⟨X, X0, X9, iX⟩ := I.in_ W
                  have zl : Sz 4000 left := (iX.sz X0 X9 W.B9).mono (by decide)
                  have lt4 : ∀ {n : Nat}, n ≤ 120 → n < 2 ^ 400 := fun h => Nat.lt_of_le_of_lt h (Nat.lt_of_lt_of_le (by decide : 120 < 2 ^ 7) (Nat.pow_le_pow_right (by decide) (by decide)))
                  walk_at "go"
                  refine ⟨lv, left, o1.w, nW os todo, rfl, al8, iX.nn, N0, zl, lt4 (Nat.le_trans g8.w12 (by decide)), lt4 N9, fun v9 H9 n9 a9 => ?_⟩
                  have eqv : mkRat ((o1.w : Nat) : Int) (nW os todo) = wq os kk / sW os todo := by
                    rw [Rat.mkRat_eq_div, ← nW_q, g7]
                    norm_cast
                  have i9 : In (nW os todo) 12 (mkRat ((o1.w : Nat) : Int) (nW os todo)) := In.frac N0 (Nat.dvd_refl _) (Nat.le_trans g8.w12 (Nat.le_mul_of_pos_right 12 N0))
                  have i99 := iX.mul i9
                  have z9 : Sz 4000 (left * mkRat ((o1.w : Nat) : Int) (nW os todo)) := (i99.sz (j := 154) (k := 28) (Nat.mul_pos X0 N0) (Nat.le_trans (Nat.mul_le_mul X9 N9) (by decide)) (Nat.le_trans (Nat.mul_le_mul_right 12 W.B9) (by decide))).mono (by decide)
                  walk_at "go"
                  refine k_two (g48.x0 n9) a9 ((((g8.h).up W.dE).sz W.E0 W.E9 W.M9).mono (by decide)) z9 g8.h.nn i99.nn trivial fun v10 H10 n10 a10 => ?_
                  rw [eqv, ← g6] at a10
                  obtain ⟨q0, q1, J⟩ := I.step W gm hmin
                  have zg : Sz 4000 (lmin (hk os kk) (left * (wq os kk / sW os todo))) := by
                    rw [← eqv]
                    have h := sz_min ((((hk_in W.ok kk).up W.dE).sz W.E0 W.E9 W.M9).mono (by decide : 165 ≤ 4000)) z9
                    exact h.mono (by decide)
                  have n610 := (n8.trans n9).trans n10
                  have hz10 := n610 _ _ hz6 fun z => nomatch z
                  have h410 := n610 _ _ h46 fun z => nomatch z
                  have g210 := tup0 n610 g2
                  have ams10 := ams6.x0 n610
                  have ps10 := ps6.x0 n610
                  have al10 := al6.x0 n610
                  walk_at "go"
                  refine r_setL hz10 (ixN_at (j := kk) rfl (by omega)) ?_
                  have x11 : Ext [D1] H10 (upd H10 D1 (.lst (zs.set kk v10))) := Ext.refl.at_ List.mem_cons_self
                  have hz11 : upd H10 D1 (.lst (zs.set kk v10)) D1 = some (.lst (zs.set kk v10)) := upd_same
                  have h411 : upd H10 D1 (.lst (zs.set kk v10)) D4 = some (.lst ws) := by rw [upd_ne n41]; exact h410
                  have ams11 := (ams10.w (l' := zs.set kk v10) hz10).set (j := kk) (a10.w (l' := zs.set kk v10) hz10)
                  have ps11 := ps10.w (l' := zs.set kk v10) hz10
                  have al11 := al10.w (l' := zs.set kk v10) hz10
                  have a11 := a10.w (l' := zs.set kk v10) hz10
                  have g211 := tupW (l' := zs.set kk v10) g210 hz10
                  have e11 : Ext [D1] H4 (upd H10 D1 (.lst (zs.set kk v10))) := (e6.trans n610.of0).trans x11
                  generalize upd H10 D1 (.lst (zs.set kk v10)) = H11 at *
                  walk_at "go"
                  refine k_two al11 a11 zl zg iX.nn q0 trivial fun v12 H12 n12 a12 => ?_
                  rw [rest_sub q1] at a12
                  walk_at "go"
                  refine ⟨D4, rfl, ⟨_, .inl (.inl (n12 _ _ h411 fun z => nomatch z))⟩, fun D13 hD13 => ?_⟩
                  have hz12 := n12 _ _ hz11 fun z => nomatch z
                  have n131 : D13 ≠ D1 := (ne_of_none hz12 hD13).symm
                  have g212 := tup0 n12 g211
                  have ps12 := ps11.x0 n12
                  refine r_lcL (xs := ws) (fun i H1 => ∃ acc : List V, H1 D13 = some (.lst acc) ∧ acc.length ≤ i ∧ PrsIs K H1 xs acc ((todo.take i).filter fun k => !decide (k = kk)) ∧ Ext [] H12 H1) ⟨[], upd_same, Nat.zero_le _, Rel.nil, Ext.refl.new hD13⟩ ?_ ?_ ?_
                  · rintro i H1 hi ⟨_, _, _, _, n1⟩
                    exact .inl (.inl ((n12.trans n1) _ _ h411 fun z => nomatch z))
                  · rintro i y H1 hy ⟨acc, h13, hal, psa, n1⟩
                    obtain ⟨jj, hjj, pb, u, rfl, hb, hu⟩ := (ps12.x0 n1).at_ hy
                    have gl := tup0 n1 g212
                    have hil := (List.getElem?_eq_some_iff.mp hy).1
                    walk_at "go"
                    refine ⟨rfl, ?_⟩
                    walk_at "go"
                    refine r_ndec (fun hnj => ?_) (fun hej => ?_)
                    · have hnj : jj ≠ kk := fun z => hnj (by rw [z])
                      walk_at "go"
                      refine ⟨acc, h13, Nat.lt_of_le_of_lt (by omega : acc.length ≤ 4000) (by decide), acc ++ [.ref pb], upd_same, by rw [List.length_append]; exact Nat.add_le_add_right hal 1, ?_, n1.own hD13⟩
                      rw [take_snoc hjj, List.filter_append, List.filter_cons_of_pos (by simpa using hnj), List.filter_nil]
                      exact Rel.snoc (psa.w h13) ⟨pb, u, rfl, tupW hb h13, hu⟩
                    · have hej : jj = kk := by
                        injection hej with h
                        exact_mod_cast h
                      refine ⟨acc, h13, Nat.le_succ_of_le hal, ?_, n1⟩
                      rw [take_snoc hjj, List.filter_append, List.filter_cons_of_neg (by simpa using hej), List.filter_nil, List.append_nil]
                      exact psa
                  · rintro H13 ⟨acc, h13, hal, psa, n13⟩
                    rw [show ws.length = todo.length from lws, List.take_length] at psa
                    walk_at "go"
                    have hpl := (rest_perm (perm_nd I.perm) gm).length_eq
                    rw [List.length_append] at hpl
                    refine ⟨D13, _, acc, _, _, _, v12, _, _, _, _, _, _, _, rfl, n13 _ _ hz12 (fun z => nomatch z), n131, h13, psa, (ams11.x0 n12).x0 n13, by rw [List.length_set]; exact lgs, a12.x0 n13, J, ?_, (e11.trans n12.of0).trans n13.of0⟩
                    have : [kk].length = 1 := rfl
                    omega
          · have ht : todo = [] := List.length_eq_zero_iff.mp heq
            subst ht
            obtain ⟨F, X, X0, X9, iX⟩ := I.all W.E0 W.E9
            walk_at "go"
            exact k D1 zs gs X H6 F X0 X9 iX hD1 hz6 ams6 fun b o h n => e6 _ _ (x4 b o h n) fun z => by rw [List.mem_singleton.mp z, hD1] at h; cases h
end
end Yk

set_option maxHeartbeats 8000000
namespace Yk
open PySem PySem.Spec PyProof.Rows L2 LamX

local macro_rules | `(tactic| walk_at "st") => `(tactic| first
  | with_reducible refine' r_dget ?_
  | with_reducible refine' r_dc ?_
  | with_reducible refine' r_iVals ?_
  | with_reducible refine' r_dnotin ?_
  | with_reducible refine' r_din ?_
  | with_reducible refine' r_iItems ?_
  | with_reducible refine' r_iKeysT ?_
  | with_reducible refine' r_tget1 ?_
  | with_reducible refine' r_tget2 ?_
  | with_reducible refine' r_dput ?_
  | with_reducible refine' r_tPr ?_
  | ((with_reducible refine' r_prp2 ?h1 ?h2); (case h1 => first | assumption | exact upd_same))
  | with_reducible refine' r_par3 ?_
  | ((with_reducible refine' r_dnT ?_); (intro np hnp))
  | ((with_reducible refine' r_dnK ?_); (intro np hnp)))
/-! The law. -/
theorem filled_le {fs : List Fl} {R : Rat} {gs : List Rat} (F : Filled (fs.map (·.want)) R gs) (i : Nat) (f : Fl) (g : Rat) (hf : fs[i]? = some f) (hg : gs[i]? = some g) : g ≤ f.q - f.own := F.le hg (by rw [List.getElem?_map, hf]; rfl)
theorem sum_add : ∀ {ps qs : List Rat}, ps.length = qs.length → sumQ (addQ ps qs) = sumQ ps + sumQ qs
  | [], [], _ => by show (0 : Rat) = 0 + 0; rw [Rat.add_zero]
  | p :: ps, q :: qs, h => by
    show sumQ ((p + q) :: addQ ps qs) = _
    rw [sumQ_cons, sumQ_cons, sumQ_cons, sum_add (by simpa using h)]
    grind
theorem sum_want (fs : List Fl) : sumQ ((fs.map (·.want)).map (·.h)) = sumQ (fs.map (·.q)) - sumQ (fs.map (·.own)) := by
  induction fs with
  | nil => show (0 : Rat) = 0 - 0; grind
  | cons f fs ih =>
    rw [List.map_cons, List.map_cons, List.map_cons, List.map_cons, sumQ_cons, sumQ_cons, sumQ_cons, ih]
    show f.q - f.own + _ = _
    grind
theorem sum_spare {fs : List Fl} {S : Rat} {gs : List Rat} (F : Filled (fs.map (·.want)) (S - sumQ (fs.map (·.own))) gs) : sumQ (addQ (fs.map (·.own)) gs) = lmin S (sumQ (fs.map (·.q))) := by
  have hl := F.len
  rw [List.length_map] at hl
  rw [sum_add (by rw [List.length_map]; exact hl.symm), F.sum, sum_want]
  unfold lmin
  grind
theorem sum_rank : ∀ {r : Rat} {l : List Rat}, 0 ≤ r → (∀ q ∈ l, 0 ≤ q) → sumQ (rankQ r l) = lmin r (sumQ l)
  | r, [], h, _ => by
    show (0 : Rat) = lmin r 0
    unfold lmin
    grind
  | r, q :: l, h, hl => by
    have h1 := lmin_le2 q r
    have hq := hl q List.mem_cons_self
    show sumQ (lmin q r :: rankQ (r - lmin q r) l) = lmin r (sumQ (q :: l))
    rw [sumQ_cons, sumQ_cons, sum_rank (by grind) fun x hx => hl x (List.mem_cons_of_mem _ hx)]
    have hs : 0 ≤ sumQ l := by
      have h2 : sumQ (l.map fun _ => (0 : Rat)) ≤ sumQ (l.map fun q => q) := sum_le_map fun x hx => hl x (List.mem_cons_of_mem _ hx)
      rw [sum_zero, List.map_id'] at h2
      exact h2
    unfold lmin
    grind
section
variable {P : Program} {w : World} {K : PySem.W.Frag} {mg : Str → Option Value} {base : Heap} {f : Addr} {fd : FuncData}
theorem addQ_in {ps gs : List Rat} {X Y M : Nat} (h1 : ∀ p ∈ ps, In X M p) (h2 : ∀ g ∈ gs, In Y M g) : ∀ t ∈ addQ ps gs, In (X * Y) (M + M) t := fun t ht => by
  obtain ⟨i, hi⟩ := List.getElem?_of_mem ht
  obtain ⟨p, g, a, b, rfl⟩ := addQ_at hi
  exact ((h1 p (List.mem_of_getElem? a)).up (Nat.dvd_mul_right _ _)).add ((h2 g (List.mem_of_getElem? b)).up (Nat.dvd_mul_left _ _))
def amD (q : Rat) : PyData := .tuple [.int q.num, .int (q.den : Int)]
theorem dp_amsD {K : PySem.W.Frag} {H : Hp} : ∀ {xs : List V} {qs : List Rat}, Ams K H xs qs → DpAll K H xs (qs.map amD)
  | [], [], _ => .nil
  | v :: xs, q :: qs, h => .cons (dp_am (h.2 0 v q rfl rfl)) (dp_amsD ⟨by simpa using h.1, fun i w u a b => h.2 (i + 1) w u (by simpa using a) (by simpa using b)⟩)
  | [], _ :: _, h => absurd h.1 (by simp)
  | _ :: _, [], h => absurd h.1 (by simp)
theorem amD_lay : ∀ qs : List Rat, PyData.canLayAll0 (qs.map amD) = true ∧ PyData.depthAll (qs.map amD) ≤ 3 ∧ PyData.eqvAll (qs.map amD) (qs.map amD) = true
  | [] => ⟨rfl, by simp [PyData.depthAll], rfl⟩
  | q :: qs => by
    obtain ⟨h1, h2, h3⟩ := amD_lay qs
    refine ⟨?_, ?_, ?_⟩
    · simp [amD, PyData.canLayAll0, PyData.canLay0]
      simpa [amD] using h1
    · have h2' := h2
      simp [amD, PyData.depthAll, PyData.depth] at h2' ⊢
      omega
    · simp [amD, PyData.eqvAll, PyData.eqv]
      simpa [amD] using h3
theorem dp_wv {K : PySem.W.Frag} {H : Hp} : ∀ fs : List Fl, DpAll K H (wv fs) (fs.map fun f => PyData.int (f.w : Int))
  | [] => .nil
  | f :: fs => .cons (.int _) (dp_wv fs)
theorem wv_lay : ∀ fs : List Fl, PyData.canLayAll0 (fs.map fun f => PyData.int (f.w : Int)) = true ∧ PyData.depthAll (fs.map fun f => PyData.int (f.w : Int)) ≤ 3 ∧ PyData.eqvAll (fs.map fun f => PyData.int (f.w : Int)) (fs.map fun f => PyData.int (f.w : Int)) = true
  | [] => ⟨rfl, by simp [PyData.depthAll], rfl⟩
  | f :: fs => by
    obtain ⟨h1, h2, h3⟩ := wv_lay fs
    refine ⟨?_, ?_, ?_⟩
    · simp [PyData.canLayAll0, PyData.canLay0]
      simpa using h1
    · have h2' := h2
      simp [PyData.depthAll, PyData.depth] at h2' ⊢
      omega
    · simp [PyData.eqvAll, PyData.eqv]
      simpa using h3
theorem ne_list {K : PySem.W.Frag} {H : Hp} {Q : VK} {a b : Addr} {xs : List V} {ds : List PyData} (h : DpAll K H xs ds) (l : PyData.canLayAll0 ds = true ∧ PyData.depthAll ds ≤ 3 ∧ PyData.eqvAll ds ds = true) (ha : SqL K H a xs) (hb : SqL K H b xs) (k : Q (.bl false) H) : rNeD K (.ref a) (.ref b) H Q := by
  obtain ⟨h1, h2, h3⟩ := l
  have hs : SeqAt.shaped (.list ds) = true := by
    simp [SeqAt.shaped, PyData.canLay0, h1, PyData.depth]
    omega
  refine ⟨.list ds, .list ds, .lst ha h, .lst hb h, hs, hs, ?_⟩
  have e : PyData.eqv (.list ds) (.list ds) = true := by simp [PyData.eqv, h3]
  rw [e]
  exact k
/-- what the two turns stand on -/
structure LB (K : PySem.W.Frag) (G : Hp) (b : Bag) (mv gv : V) (x y z po ps pr : Addr) (xs ys os ts rs : List V) (fs : List Fl) (gs : List Rat) (S : Rat) (X : Nat) : Prop where
  hx : SqL K G x (wv fs)
  hy : SqL K G y xs
  hz : SqL K G z ys
  ho : SqL K G po os
  hs : SqL K G ps ts
  hr : SqL K G pr rs
  mv : Am K G mv S
  gv : Am K G gv (lmin S (sumQ (fs.map (·.q))))
  ap : Ams K G xs (fs.map (·.p))
  aq : Ams K G ys (fs.map (·.q))
  ao : Ams K G os (fs.map (·.own))
  at_ : Ams K G ts (addQ (fs.map (·.own)) gs)
  ar : Ams K G rs (rankQ S (fs.map (·.q)))
  W : FlOk DD (DD * 27720) 1000000 10000000 fs S
  F : Filled (fs.map (·.want)) (S - sumQ (fs.map (·.own))) gs
  X0 : 0 < X
  X9 : X ≤ 2 ^ 150
  iX : ∀ g ∈ gs, In X 1000000 g
theorem rank_in {E B : Nat} : ∀ {l : List Rat} {r : Rat}, In E B r → (∀ q ∈ l, In E B q) → ∀ t ∈ rankQ r l, In E B t
  | [], r, _, _, t, ht => absurd ht (by simp [rankQ])
  | q :: l, r, h, hl, t, ht => by
    have h1 := (hl q List.mem_cons_self).lmin h
    rcases List.mem_cons.mp (show t ∈ lmin q r :: rankQ (r - lmin q r) l from ht) with e | e
    · rw [e]; exact h1
    · exact rank_in (l := l) (h.sub h1 (lmin_le2 _ _)) (fun x hx => hl x (List.mem_cons_of_mem _ hx)) t e
theorem LB.x0 {G H : Hp} {b : Bag} {mv gv : V} {x y z po ps pr : Addr} {xs ys os ts rs : List V} {fs : List Fl} {gs : List Rat} {S : Rat} {X : Nat} (e : Ext [] G H) (Z : LB K G b mv gv x y z po ps pr xs ys os ts rs fs gs S X) : LB K H b mv gv x y z po ps pr xs ys os ts rs fs gs S X :=
  ⟨lst0 e Z.hx, lst0 e Z.hy, lst0 e Z.hz, lst0 e Z.ho, lst0 e Z.hs, lst0 e Z.hr, Z.mv.x0 e, Z.gv.x0 e, Z.ap.x0 e, Z.aq.x0 e, Z.ao.x0 e, Z.at_.x0 e, Z.ar.x0 e, Z.W, Z.F, Z.X0, Z.X9, Z.iX⟩
/-- what a turn got -/
structure TU (K : PySem.W.Frag) (H : Hp) (c1 c2 c3 : Addr) (f1 f2 f3 : List V) (fs : List Fl) (gs : List Rat) (S : Rat) : Prop where
  h1 : H c1 = some (.lst f1)
  h2 : H c2 = some (.lst f2)
  h3 : H c3 = some (.lst f3)
  a1 : Ams K H f1 (fs.map (·.own))
  a2 : Ams K H f2 (addQ (fs.map (·.own)) gs)
  a3 : Ams K H f3 (rankQ S (fs.map (·.q)))
  n12 : c1 ≠ c2
  n13 : c1 ≠ c3
  n23 : c2 ≠ c3
theorem TU.x0 {H H' : Hp} {c1 c2 c3 : Addr} {f1 f2 f3 : List V} {fs : List Fl} {gs : List Rat} {S : Rat} (e : Ext [] H H') (U : TU K H c1 c2 c3 f1 f2 f3 fs gs S) : TU K H' c1 c2 c3 f1 f2 f3 fs gs S :=
  ⟨e _ _ U.h1 (fun z => nomatch z), e _ _ U.h2 (fun z => nomatch z), e _ _ U.h3 (fun z => nomatch z), U.a1.x0 e, U.a2.x0 e, U.a3.x0 e, U.n12, U.n13, U.n23⟩
def spLaw34 (P0 : Addr) (K : PySem.W.Frag) : Sp := fun vs H Q _ => ∃ (a : Addr) (ns : List Int), vs = [.ref a] ∧ SqL K H a (ns.map V.int) ∧ ns.length ≤ 63 ∧ H P0 = some (.tbl #[]) ∧ ∀ H', Q (.bl true) H'
abbrev s_law : Stmt := top 52
theorem c_law : FnScope ["_law_script", "_law_bag_here", "_law_most", "_law_weights_of", "_law_shares_of", "_law_limits_of", "_law_own", "_law_one", "_law_two", "_law_wants", "_law_w", "_law_extras_here", "_law_spare", "_law_goes", "_law_ranked_here", "_law_k", "_law_a", "_law_b", "_law_c", "_law_first", "_law_second", "_law_third"] ["_law_script"] (defScope s_law) := ⟨rfl, rfl, rfl, by decide +kernel, rfl, by decide +kernel, by decide +kernel⟩
theorem f_law (F : FunD K "law" "law" (defArgs s_law) (defBody s_law) (defScope s_law) [] [] f fd) (hm : mg "law" = some (.ref f)) {P0 : Addr} (T : Bt mg) (F_law_bag : Fn P w K mg base 1 "_law_bag" (spBag K)) (F_law_drawn : Fn P w K mg base 4 "_law_drawn" (spDrawn K)) (F_law_extras : Fn P w K mg base 4 "_law_extras" (spExtrasN P0 K)) (F_law_sum : Fn P w K mg base 2 "_law_sum" (sp2 (fun _ _ => True) (· + ·) K)) (F_law_min : Fn P w K mg base 2 "_law_min" (sp2 (fun _ _ => True) lmin K)) (F_law_rest : Fn P w K mg base 2 "_law_rest" (sp2 (fun _ _ => True) restQ K)) (F_law_less : Fn P w K mg base 1 "_law_less" (spLess K)) (F_law_all : Fn P w K mg base 3 "_law_all" (spLAll K)) (F_law_same : Fn P w K mg base 4 "_law_same" (spLike K 4)) (F_law_sums_up : Fn P w K mg base 5 "_law_sums_up" (spSumsUp K)) (F_law_level_extras : Fn P w K mg base 3 "_law_level_extras" (spLevelEx K)) (F_law_ranked : Fn P w K mg base 3 "_law_ranked" (spRanked K)) (Fown_sends : Fn P w K mg base 3 "own_sends" (spOwnF K)) (Fspare_sends : Fn P w K mg base 13 "spare_sends" (spSpareF K)) (Frank_sends : Fn P w K mg base 3 "rank_sends" (spRankF K)) : FnOk P w K mg base CX0 14 f fd ["_law_script"] (spLaw34 P0 K) := by
  refine ok_def F c_law (fun vs H Q E h => ?_) (fun cdv A outer s H vs Q E hr h => ?_)
  · obtain ⟨a, ns, rfl, _⟩ := h
    rfl
  · obtain ⟨sc, ns, rfl, hl, h63, htb, k⟩ := h
    have nd := c_law.nd
    refine ⟨_, (pss_cons (ps_set (i := 1) nd rfl (by first | exact Or.inl rfl | exact Or.inr rfl) (pe_fn F_law_bag (hr.mono (by decide)) (pa_cons (pv 0) pa_nil)))
      (pss_cons (ps_asg (pe_fn F_law_drawn (hr.mono (by decide)) (pa_cons (pv 1) pa_nil)) (pg_tup rfl (pgs_cons (pg_name (i := 2) nd rfl (by first | exact Or.inl rfl | exact Or.inr rfl)) (pgs_cons (pg_name (i := 3) nd rfl (by first | exact Or.inl rfl | exact Or.inr rfl)) (pgs_cons (pg_name (i := 4) nd rfl (by first | exact Or.inl rfl | exact Or.inr rfl)) (pgs_cons (pg_name (i := 5) nd rfl (by first | exact Or.inl rfl | exact Or.inr rfl)) pgs_nil))))))
      (pss_cons (ps_setLc (i := 6) (own := [("_law_one", 7), ("_law_two", 8)])  rfl nd rfl rfl (sw_true rfl rfl rfl (by decide +kernel)) (RZ.pi_zipA (by rfl) T.zip (pa_cons (pv 4) (pa_cons (pv 5) pa_nil))) (blkOk_by (N := ["_law_script", "_law_bag_here", "_law_most", "_law_weights_of", "_law_shares_of", "_law_limits_of", "_law_own", "_law_one", "_law_two", "_law_wants", "_law_w", "_law_extras_here", "_law_spare", "_law_goes", "_law_ranked_here", "_law_k", "_law_a", "_law_b", "_law_c", "_law_first", "_law_second", "_law_third"]) (sc := defScope s_law) (by decide +kernel)) (fun _ _ _ _ _ => (pg_tup (n := 2) rfl (pgs_cons (pg_name (i := 7) nd rfl (Or.inl rfl)) (pgs_cons (pg_name (i := 8) nd rfl (Or.inl rfl)) pgs_nil)) : PG _ _ (gTup K 2 _))) (fun _ _ _ _ _ => pts_nil) (fun _ _ _ _ _ => (pe_fn F_law_min (hr.mono (by decide)) (pa_cons (pv 7) (pa_cons (pv 8) pa_nil)))))
      (pss_cons (ps_setLc (i := 9) (own := [("_law_w", 10), ("_law_one", 7), ("_law_two", 8)])  rfl nd rfl rfl (sw_true rfl rfl rfl (by decide +kernel)) (pi_zip3 (by rfl) T.zip (pa_cons (pv 3) (pa_cons (pv 5) (pa_cons (pv 6) pa_nil)))) (blkOk_by (N := ["_law_script", "_law_bag_here", "_law_most", "_law_weights_of", "_law_shares_of", "_law_limits_of", "_law_own", "_law_one", "_law_two", "_law_wants", "_law_w", "_law_extras_here", "_law_spare", "_law_goes", "_law_ranked_here", "_law_k", "_law_a", "_law_b", "_law_c", "_law_first", "_law_second", "_law_third"]) (sc := defScope s_law) (by decide +kernel)) (fun _ _ _ _ _ => (pg_tup (n := 3) rfl (pgs_cons (pg_name (i := 10) nd rfl (Or.inl rfl)) (pgs_cons (pg_name (i := 7) nd rfl (Or.inl rfl)) (pgs_cons (pg_name (i := 8) nd rfl (Or.inl rfl)) pgs_nil))) : PG _ _ (gTup K 3 _))) (fun _ _ _ _ _ => pts_nil) (fun _ _ _ _ _ => (pe_tup (pa_cons (pv 10) (pa_cons (pe_fn F_law_rest (hr.mono (by decide)) (pa_cons (pv 7) (pa_cons (pv 8) pa_nil))) pa_nil)))))
      (pss_cons (ps_set (i := 11) nd rfl (by first | exact Or.inl rfl | exact Or.inr rfl) (pe_fn F_law_extras (hr.mono (by decide)) (pa_cons (pe_fn F_law_rest (hr.mono (by decide)) (pa_cons (pv 2) (pa_cons (pe_fn F_law_all (hr.mono (by decide)) (pa_cons (pv 6) pa_nil)) pa_nil))) (pa_cons (pv 9) pa_nil))))
      (pss_cons (ps_setLc (i := 12) (own := [("_law_one", 7), ("_law_two", 8)])  rfl nd rfl rfl (sw_true rfl rfl rfl (by decide +kernel)) (RZ.pi_zipA (by rfl) T.zip (pa_cons (pv 6) (pa_cons (pv 11) pa_nil))) (blkOk_by (N := ["_law_script", "_law_bag_here", "_law_most", "_law_weights_of", "_law_shares_of", "_law_limits_of", "_law_own", "_law_one", "_law_two", "_law_wants", "_law_w", "_law_extras_here", "_law_spare", "_law_goes", "_law_ranked_here", "_law_k", "_law_a", "_law_b", "_law_c", "_law_first", "_law_second", "_law_third"]) (sc := defScope s_law) (by decide +kernel)) (fun _ _ _ _ _ => (pg_tup (n := 2) rfl (pgs_cons (pg_name (i := 7) nd rfl (Or.inl rfl)) (pgs_cons (pg_name (i := 8) nd rfl (Or.inl rfl)) pgs_nil)) : PG _ _ (gTup K 2 _))) (fun _ _ _ _ _ => pts_nil) (fun _ _ _ _ _ => (pe_fn F_law_sum (hr.mono (by decide)) (pa_cons (pv 7) (pa_cons (pv 8) pa_nil)))))
      (pss_cons (ps_set (i := 13) nd rfl (by first | exact Or.inl rfl | exact Or.inr rfl) (pe_fn F_law_min (hr.mono (by decide)) (pa_cons (pv 2) (pa_cons (pe_fn F_law_all (hr.mono (by decide)) (pa_cons (pv 5) pa_nil)) pa_nil))))
      (pss_cons (ps_if (PW.pt (pw_or (pt_not (pt_val (pe_fn F_law_sums_up (hr.mono (by decide)) (pa_cons (pv 12) (pa_cons (pv 13) pa_nil))))) (pw_or1 (pt_not (pt_val (pe_fn F_law_level_extras (hr.mono (by decide)) (pa_cons (pv 3) (pa_cons (pv 6) (pa_cons (pv 5) (pa_cons (pv 12) pa_nil))))))))))
        (pss_one (ps_ret pe_bl))
        pss_nil)
      (pss_cons (ps_set (i := 14) nd rfl (by first | exact Or.inl rfl | exact Or.inr rfl) (pe_fn F_law_ranked (hr.mono (by decide)) (pa_cons (pv 2) (pa_cons (pv 5) pa_nil))))
      (pss_mid (ps_for PassesOwn.never rfl (pi_range1 rfl T.range (pa_cons pe_int pa_nil)) (pg_name (i := 15) nd rfl (by first | exact Or.inl rfl | exact Or.inr rfl))
        (pss_cons (ps_par3 (i := 16) (j := 17) (l := 18) (by rfl) nd rfl rfl rfl (by decide) (by decide) (by decide) rfl rfl rfl (pa_cons (pe_callTy cr_list (by rfl) T.list (by decide +kernel) (pa_cons (pv 4) pa_nil)) (pa_cons (pe_callTy cr_list (by rfl) T.list (by decide +kernel) (pa_cons (pv 5) pa_nil)) (pa_cons (pe_callTy cr_list (by rfl) T.list (by decide +kernel) (pa_cons (pv 3) pa_nil)) pa_nil))) (by rfl))
        (pss_cons (ps_par3 (i := 19) (j := 20) (l := 21) (by rfl) nd rfl rfl rfl (by decide) (by decide) (by decide) rfl rfl rfl (pa_cons (pe_fn Fown_sends (hr.mono (by decide)) (pa_cons (pv 16) (pa_cons (pv 17) pa_nil))) (pa_cons (pe_fn Fspare_sends (hr.mono (by decide)) (pa_cons (pv 2) (pa_cons (pv 18) (pa_cons (pv 16) (pa_cons (pv 17) pa_nil))))) (pa_cons (pe_fn Frank_sends (hr.mono (by decide)) (pa_cons (pv 2) (pa_cons (pv 17) pa_nil))) pa_nil))) (by rfl))
        (pss_mid (ps_if (pt_cmpR op_eq (pv 15) pe_int (nomark _))
          (pss_cons (ps_set (i := 19) nd rfl (by first | exact Or.inl rfl | exact Or.inr rfl) (pe_fn Fown_sends (hr.mono (by decide)) (pa_cons (pe_callTy cr_tuple (by rfl) T.tuple (by decide +kernel) (pa_cons (pv 16) pa_nil)) (pa_cons (pe_callTy cr_tuple (by rfl) T.tuple (by decide +kernel) (pa_cons (pv 17) pa_nil)) pa_nil))))
          (pss_one (ps_par (i := 20) (j := 21) (by rfl) nd rfl rfl (by decide) rfl rfl (pa_cons (pe_fn Fspare_sends (hr.mono (by decide)) (pa_cons (pv 2) (pa_cons (pe_callTy cr_tuple (by rfl) T.tuple (by decide +kernel) (pa_cons (pv 18) pa_nil)) (pa_cons (pe_callTy cr_tuple (by rfl) T.tuple (by decide +kernel) (pa_cons (pv 16) pa_nil)) (pa_cons (pe_callTy cr_tuple (by rfl) T.tuple (by decide +kernel) (pa_cons (pv 17) pa_nil)) pa_nil))))) (pa_cons (pe_fn Frank_sends (hr.mono (by decide)) (pa_cons (pv 2) (pa_cons (pe_callTy cr_tuple (by rfl) T.tuple (by decide +kernel) (pa_cons (pv 17) pa_nil)) pa_nil))) pa_nil)) (by rfl))))
          pss_nil)
        (pss_cons (ps_if (PW.pt (pw_or (pt_cmpR (op_neD hr.units) (pv 16) (pv 4) (nomark _)) (pw_or (pt_cmpR (op_neD hr.units) (pv 17) (pv 5) (nomark _)) (pw_or1 (pt_cmpR (op_neD hr.units) (pv 18) (pv 3) (nomark _))))))
          (pss_one (ps_ret pe_bl))
          pss_nil)
        (pss_cons (ps_if (PW.pt (pw_or (pt_not (pt_val (pe_fn F_law_same (hr.mono (by decide)) (pa_cons (pv 19) (pa_cons (pv 6) pa_nil))))) (pw_or (pt_not (pt_val (pe_fn F_law_same (hr.mono (by decide)) (pa_cons (pv 20) (pa_cons (pv 12) pa_nil))))) (pw_or1 (pt_not (pt_val (pe_fn F_law_same (hr.mono (by decide)) (pa_cons (pv 21) (pa_cons (pv 14) pa_nil)))))))))
          (pss_one (ps_ret pe_bl))
          pss_nil)
        (pss_cons (ps_if (PW.pt (pw_or (pt_not (pt_val (pe_fn F_law_sums_up (hr.mono (by decide)) (pa_cons (pv 21) (pa_cons (pv 13) pa_nil))))) (pw_or1 (pt_not (pt_val (pe_fn F_law_level_extras (hr.mono (by decide)) (pa_cons (pv 18) (pa_cons (pv 6) (pa_cons (pv 17) (pa_cons (pv 20) pa_nil))))))))))
          (pss_one (ps_ret pe_bl))
          pss_nil)
        (pss_cons (ps_if (pt_val (pe_callB (cr_any rfl) (by rfl) T.any (by decide +kernel) (pa_cons (pe_lc (own := [("_law_one", 7), ("_law_two", 8)])  rfl nd (RZ.pi_zipA (by rfl) T.zip (pa_cons (pv 20) (pa_cons (pv 19) pa_nil))) (blkOk_by (N := ["_law_script", "_law_bag_here", "_law_most", "_law_weights_of", "_law_shares_of", "_law_limits_of", "_law_own", "_law_one", "_law_two", "_law_wants", "_law_w", "_law_extras_here", "_law_spare", "_law_goes", "_law_ranked_here", "_law_k", "_law_a", "_law_b", "_law_c", "_law_first", "_law_second", "_law_third"]) (sc := defScope s_law) (by decide +kernel)) (fun _ _ _ _ _ => (pg_tup (n := 2) rfl (pgs_cons (pg_name (i := 7) nd rfl (Or.inl rfl)) (pgs_cons (pg_name (i := 8) nd rfl (Or.inl rfl)) pgs_nil)) : PG _ _ (gTup K 2 _))) (fun _ _ _ _ _ => pts_nil) (fun _ _ _ _ _ => (pe_fn F_law_less (hr.mono (by decide)) (pa_cons (pv 7) (pa_cons (pv 8) pa_nil))))) pa_nil)))
          (pss_one (ps_ret pe_bl))
          pss_nil)
        (pss_cons (ps_if (pt_val (pe_callB (cr_any rfl) (by rfl) T.any (by decide +kernel) (pa_cons (pe_lc (own := [("_law_one", 7), ("_law_two", 8)])  rfl nd (RZ.pi_zipA (by rfl) T.zip (pa_cons (pv 5) (pa_cons (pv 20) pa_nil))) (blkOk_by (N := ["_law_script", "_law_bag_here", "_law_most", "_law_weights_of", "_law_shares_of", "_law_limits_of", "_law_own", "_law_one", "_law_two", "_law_wants", "_law_w", "_law_extras_here", "_law_spare", "_law_goes", "_law_ranked_here", "_law_k", "_law_a", "_law_b", "_law_c", "_law_first", "_law_second", "_law_third"]) (sc := defScope s_law) (by decide +kernel)) (fun _ _ _ _ _ => (pg_tup (n := 2) rfl (pgs_cons (pg_name (i := 7) nd rfl (Or.inl rfl)) (pgs_cons (pg_name (i := 8) nd rfl (Or.inl rfl)) pgs_nil)) : PG _ _ (gTup K 2 _))) (fun _ _ _ _ _ => pts_nil) (fun _ _ _ _ _ => (pe_fn F_law_less (hr.mono (by decide)) (pa_cons (pv 7) (pa_cons (pv 8) pa_nil))))) pa_nil)))
          (pss_one (ps_ret pe_bl))
          pss_nil)
        (pss_cons (ps_expr (pe_bm PySem.F.plainAttrs_list PySem.F.slot_list_append PySem.F.type_list_append mt_append (pv 19) (pa_cons (pe_tup (pa_cons pe_int (pa_cons pe_int pa_nil))) pa_nil)))
        (pss_cons (ps_expr (pe_bm0 PySem.F.plainAttrs_list PySem.F.slot_list_clear PySem.F.type_list_clear mt_clear (pv 20)))
        (pss_one (ps_expr (pe_bm0 PySem.F.plainAttrs_list PySem.F.slot_list_reverse PySem.F.type_list_reverse mt_reverse (pv 21)))))))))))))))
      (pss_one (ps_ret pe_bl)))))))))))), ?_⟩
    show (_ : TS) _ [some _, none, none, none, none, none, none, none, none, none, none, none, none, none, none, none, none, none, none, none, none, none] _
    try dsimp only [cxOf, Cx.nox]
    walk_at "go"
    refine ⟨sc, ns, rfl, hl, h63, fun b H1 hn e1 b1 => ?_⟩
    have t1 : H1 P0 = some (.tbl #[]) := e1 _ _ htb fun z => nomatch z
    walk_at "go"
    refine ⟨b, rfl, b1, fun t x y z mv xs ys fs S H2 ht hx hy hz A3 hx1 hy1 hz1 hS hp hq W n0 hPS b2 n2 => ?_⟩
    have npb : P0 ≠ b.a := fun z => by
      obtain ⟨l, q⟩ := b1.lst
      rw [z, q] at t1
      cases t1
    have t2 : H2 P0 = some (.tbl #[]) := n2 _ _ t1 (by simpa using npb)
    have lx := hp.1
    have ly := hq.1
    rw [List.length_map] at lx ly
    have ln := W.n
    have E0 := W.E0
    have zw : ∀ {q : Rat}, In DD 1000000 q → Sz 165 q := fun i => W.sz i
    have lw : (wv fs).length = fs.length := by unfold wv; rw [List.length_map]
    walk_at "go"
    refine ⟨y, z, xs, ys, rfl, .inl ⟨.inl (.inl hy), .inl (.inl hz), fun D1 hD1 => ?_⟩⟩
    refine r_lcZL (xs := xs) (ys := ys) (by omega) (fun i H3 => ∃ acc : List V, Ext [] H2 H3 ∧ H3 D1 = some (.lst acc) ∧ Ams K H3 acc ((fs.take i).map (·.own))) ⟨[], Ext.refl.new hD1, upd_same, Ams.nil⟩ (fun i H3 p => by obtain ⟨_, e, _⟩ := p; exact ⟨lst0 e (.inl (.inl hy)), lst0 e (.inl (.inl hz))⟩) ?_ ?_
    · rintro i x1 y1 T H3 hx1 hy1 ⟨acc, e3, h3, ams⟩ hT
      have hi : i < xs.length := (List.getElem?_eq_some_iff.mp hx1).1
      have m1 := (Ext.refl (S := []) (H := H3)).new (o := .tup [x1, y1]) hT
      have e4 := e3.trans m1
      obtain ⟨p, hp1, ap⟩ := hp.at_ hx1
      obtain ⟨fl, hf, rfl⟩ := fmap hp1
      obtain ⟨q, hq1, aq⟩ := hq.at_ hy1
      obtain ⟨fl', hf', rfl⟩ := fmap hq1
      rw [hf] at hf'
      cases hf'
      have mf := List.mem_of_getElem? hf
      have hl1 := ams.1
      rw [List.length_map, List.length_take] at hl1
      walk_at "go"
      refine ⟨rfl, ?_⟩
      walk_at "go"
      refine k_two (ap.x0 e4) (aq.x0 e4) ((zw (W.p fl mf)).mono (by decide)) ((zw (W.q fl mf)).mono (by decide)) (W.p fl mf).nn (W.q fl mf).nn trivial fun v3 H4 n4 a4 => ?_
      have hac : H4 D1 = some (.lst acc) := (m1.trans n4) _ _ h3 fun z => nomatch z
      refine ⟨acc, hac, Nat.lt_of_le_of_lt (by omega : acc.length ≤ 4000) (by decide), acc ++ [v3], (e4.trans n4).own hD1, upd_same, ?_⟩
      rw [take_map' hf]
      exact (((ams.x0 m1).x0 n4).w hac).app (Ams.cons (a4.w hac) Ams.nil)
    · rintro H3 ⟨os, e3, h3, ao⟩
      rw [lx, List.take_length] at ao
      have lo := ao.1
      rw [List.length_map] at lo
      have hx3 := e3 _ _ hx fun z => nomatch z
      have hz3 := e3 _ _ hz fun z => nomatch z
      walk_at "go"
      refine r_iZip3 ?_
      walk_at "go"
      refine ⟨true, true, true, x, z, D1, wv fs, ys, os, rfl, .inl (.inl hx3), .inl (.inl hz3), .inl (.inl h3), fun D2 hD2 => ?_⟩
      refine r_lcZ3 (xs := wv fs) (ys := ys) (zs := os) (by omega) (by omega) (fun i H4 => ∃ acc : List V, Ext [] H3 H4 ∧ H4 D2 = some (.lst acc) ∧ WantsIs K H4 acc ((fs.take i).map (·.want))) ⟨[], Ext.refl.new hD2, upd_same, Rel.nil⟩ (fun i H4 p => by obtain ⟨_, e, _⟩ := p; exact ⟨.inl (.inl (e _ _ hx3 fun z => nomatch z)), .inl (.inl (e _ _ hz3 fun z => nomatch z)), .inl (.inl (e _ _ h3 fun z => nomatch z))⟩) ?_ ?_
      · rintro i x1 y1 z1 T H4 hx1 hy1 hz1 ⟨acc, e4, h4, ws⟩ hT
        have hi : i < (wv fs).length := (List.getElem?_eq_some_iff.mp hx1).1
        have m1 := (Ext.refl (S := []) (H := H4)).new (o := .tup [x1, y1, z1]) hT
        obtain ⟨fl, hf, rfl⟩ := fmap hx1
        obtain ⟨q, hq1, aq⟩ := hq.at_ hy1
        obtain ⟨fl', hf', rfl⟩ := fmap hq1
        rw [hf] at hf'
        cases hf'
        obtain ⟨o, ho1, ao1⟩ := ao.at_ hz1
        obtain ⟨fl', hf', rfl⟩ := fmap ho1
        rw [hf] at hf'
        cases hf'
        have mf := List.mem_of_getElem? hf
        have hl1 := ws.1
        rw [List.length_map, List.length_take] at hl1
        walk_at "go"
        refine ⟨rfl, ?_⟩
        walk_at "go"
        refine k_two (aq.x0 (e3.trans (e4.trans m1))) (ao1.x0 (e4.trans m1)) ((zw (W.q fl mf)).mono (by decide)) ((zw (W.own mf)).mono (by decide)) (W.q fl mf).nn (W.own mf).nn trivial fun v3 H5 n5 a5 => ?_
        rw [rest_sub fl.own_le] at a5
        walk_at "go"
        rename_i p hp1
        have m6 := (Ext.refl (S := []) (H := H5)).new (o := .tup [.int (fl.w : Int), v3]) hp1
        have n6 := (m1.trans n5).trans m6
        have wi : WantIs K (upd H5 p (.tup [.int (fl.w : Int), v3])) (.ref p) fl.want := ⟨p, v3, rfl, tupS, a5.x0 m6⟩
        have hac := n6 _ _ h4 fun z => nomatch z
        have ws4 := ws.x0 n6
        generalize upd H5 p (.tup [.int (fl.w : Int), v3]) = H6 at *
        refine ⟨acc, hac, Nat.lt_of_le_of_lt (by omega : acc.length ≤ 4000) (by decide), acc ++ [.ref p], (e4.trans n6).own hD2, upd_same, ?_⟩
        rw [take_map' hf]
        exact Rel.snoc (WantsIs.w hac ws4) (wi.x extW (lstS1 hac))
      · rintro H4 ⟨wl, e4, h4, ws⟩
        rw [lw, List.take_length] at ws
        have h34 := e4 _ _ h3 fun z => nomatch z
        have io : ∀ q ∈ fs.map (·.own), In DD 1000000 q := fun q hq => by obtain ⟨f, hf, rfl⟩ := List.mem_map.mp hq; exact W.own hf
        have iq : ∀ q ∈ fs.map (·.q), In DD 1000000 q := fun q hq => by obtain ⟨f, hf, rfl⟩ := List.mem_map.mp hq; exact W.q f hf
        have e24 := e3.trans e4
        have t4 : H4 P0 = some (.tbl #[]) := e24 _ _ t2 fun z => nomatch z
        walk_at "go"
        refine ⟨D1, os, fs.map (·.own), DD, 1000000, rfl, .inl (.inl h34), ao.x0 e4, io, DD0, Nat.le_trans DD9 (by decide), by rw [List.length_map]; exact Nat.le_trans (Nat.mul_le_mul_right _ ln) (by decide), fun v5 H5 n5 a5 => ?_⟩
        walk_at "go"
        refine k_two (hS.x0 (e24.trans n5)) a5 ((W.szE W.goal).mono (by decide)) ((W.szE W.owns).mono (by decide)) W.goal.nn W.owns.nn trivial fun v6 H6 n6 a6 => ?_
        rw [rest_sub W.sum] at a6
        have n46 := n5.trans n6
        walk_at "go"
        refine ⟨v6, D2, wl, fs.map (·.want), DD, DD * 27720, 1000000, 10000000, _, rfl, .inl (.inl (n46 _ _ h4 fun z => nomatch z)), ws.x0 n46, a6, W.sp, n46 _ _ t4 (fun z => nomatch z), fun D7 gl gs X H7 F X0 X9 iX hD7 h7 ag x7 => ?_⟩
        have x27 : ExtN H2 H7 := (extN_of (e24.trans n46)).trans x7
        have x37 : ExtN H3 H7 := (extN_of (e4.trans n46)).trans x7
        have hx7 : SqL K H7 x (wv fs) := lstE x27 (.inl (.inl hx))
        have hy7 : SqL K H7 y xs := lstE x27 (.inl (.inl hy))
        have hz7 : SqL K H7 z ys := lstE x27 (.inl (.inl hz))
        have ho7 : SqL K H7 D1 os := lstE x37 (.inl (.inl h3))
        have mv7 := hS.e x27
        have ap7 := hp.e x27
        have aq7 := hq.e x27
        have ao7 := ao.e x37
        clear x27 x37 x7 n46 n6 n5 a5 a6 t4 e24 h34 ws e4 h4 hD2 hx3 hz3 ao h3 e3 hD1 hS hp hq hx hy hz t2 b2 n2
        have lgs := F.len
        rw [List.length_map] at lgs
        have lgl := ag.1
        walk_at "go"
        refine ⟨D1, D7, os, gl, rfl, .inl ⟨ho7, .inl (.inl h7), fun D8 hD8 => ?_⟩⟩
        refine r_lcZL (xs := os) (ys := gl) (by omega) (fun i H8 => ∃ acc : List V, Ext [] H7 H8 ∧ H8 D8 = some (.lst acc) ∧ Ams K H8 acc (addQ ((fs.map (·.own)).take i) (gs.take i))) ⟨[], Ext.refl.new hD8, upd_same, Ams.nil⟩ (fun i H8 p => by obtain ⟨_, e, _⟩ := p; exact ⟨lst0 e ho7, .inl (.inl (e _ _ h7 fun z => nomatch z))⟩) ?_ ?_
        · rintro i x1 y1 T H8 hx1 hy1 ⟨acc6, e8, h8, ams6⟩ hT
          have hi : i < os.length := (List.getElem?_eq_some_iff.mp hx1).1
          have m1 := (Ext.refl (S := []) (H := H8)).new (o := .tup [x1, y1]) hT
          obtain ⟨p, hp1, ap⟩ := ao7.at_ hx1
          obtain ⟨g, hg1, ag1⟩ := ag.at_ hy1
          have hl6 := ams6.1
          rw [addQ_len (by rw [List.length_take, List.length_take, List.length_map]; omega), List.length_take, List.length_map] at hl6
          have ig := iX g (List.mem_of_getElem? hg1)
          have ip := io p (List.mem_of_getElem? hp1)
          walk_at "go"
          refine ⟨rfl, ?_⟩
          walk_at "go"
          refine k_two (ap.x0 (e8.trans m1)) (ag1.x0 (e8.trans m1)) ((zw ip).mono (by decide)) ((ig.sz X0 X9 W.M9).mono (by decide)) ip.nn ig.nn trivial fun v9 H9 n9 a9 => ?_
          have hac : H9 D8 = some (.lst acc6) := (m1.trans n9) _ _ h8 fun z => nomatch z
          refine ⟨acc6, hac, Nat.lt_of_le_of_lt (by omega : acc6.length ≤ 4000) (by decide), acc6 ++ [v9], (e8.trans (m1.trans n9)).own hD8, upd_same, ?_⟩
          rw [addQ_take hp1 hg1]
          exact (((ams6.x0 m1).x0 n9).w hac).app (Ams.cons (a9.w hac) Ams.nil)
        · rintro H8 ⟨ts, e8, h8, at8⟩
          rw [show os.length = (fs.map (·.own)).length by rw [List.length_map]; exact lo, List.take_length, List.length_map, show fs.length = gs.length from lgs.symm, List.take_length] at at8
          walk_at "go"
          refine ⟨z, ys, fs.map (·.q), DD, 1000000, rfl, lst0 e8 hz7, aq7.x0 e8, iq, DD0, Nat.le_trans DD9 (by decide), by rw [List.length_map]; exact Nat.le_trans (Nat.mul_le_mul_right _ ln) (by decide), fun v9 H9 n9 a9 => ?_⟩
          have iqs : In DD 10000000 (sumQ (fs.map (·.q))) := (sum_in iq).most (by rw [List.length_map]; exact Nat.mul_le_mul_right 1000000 ln)
          walk_at "go"
          refine k_two (mv7.x0 (e8.trans n9)) a9 ((W.szE W.goal).mono (by decide)) (zD iqs (by decide)) W.goal.nn iqs.nn trivial fun gv H10 n10 a10 => ?_
          have n910 := n9.trans n10
          have e10 := e8.trans n910
          have iAdd := addQ_in io iX
          have lAdd : (addQ (fs.map (·.own)) gs).length = fs.length := by rw [addQ_len (by rw [List.length_map]; omega), List.length_map]
          walk_at "go"
          refine ⟨D8, gv, ts, addQ (fs.map (·.own)) gs, DD * X, 2000000, rfl, .inl (.inl (n910 _ _ h8 fun z => nomatch z)), at8.x0 n910, iAdd, Nat.mul_pos DD0 X0, Nat.le_trans (Nat.mul_le_mul DD9 X9) (by decide), by rw [lAdd]; exact Nat.le_trans (Nat.mul_le_mul_right _ ln) (by decide), by rw [sum_spare F]; exact a10, fun H11 n11 => ?_⟩
          have n811 := n910.trans n11
          have e11 := e8.trans n811
          walk_at "run"
          try walk_at "go"
          refine ⟨x, D1, z, D8, os, ys, ts, fs, gs, DD, DD * 27720, 1000000, 10000000, X, S, rfl, lst0 e11 hx7, lst0 e11 ho7, lst0 e11 hz7, .inl (.inl (n811 _ _ h8 fun z => nomatch z)), ao7.x0 e11, aq7.x0 e11, at8.x0 n811, W, F, X0, X9, iX, fun H12 n12 => ?_⟩
          have n812 := n811.trans n12
          have e12 := e8.trans n812
          walk_at "run"
          try walk_at "go"
          refine ⟨mv, z, ys, fs.map (·.q), DD * 27720, 10000000, S, rfl, lst0 e12 hz7, aq7.x0 e12, mv7.x0 e12, W.goal, fun q hq => ((iq q hq).up W.dE).most (by decide), by rw [List.length_map]; exact ln, W.E0, W.E9, W.B9, fun D13 rs H13 hD13 h13 ar n13 => ?_⟩
          have n813 := n812.trans n13
          have e13 := e8.trans n813
          have Z : LB K H13 b mv gv x y z D1 D8 D13 xs ys os ts rs fs gs S X := ⟨lst0 e13 hx7, lst0 e13 hy7, lst0 e13 hz7, lst0 e13 ho7, .inl (.inl (n813 _ _ h8 fun z => nomatch z)), .inl (.inl h13), mv7.x0 e13, a10.x0 ((n11.trans n12).trans n13), ap7.x0 e13, aq7.x0 e13, ao7.x0 e13, at8.x0 n813, ar, W, F, X0, X9, iX⟩
          clear e13 n813 e12 n812 e11 n811 n910 e10 e8 h8 at8 ag h7 hx7 hy7 hz7 ho7 mv7 ap7 aq7 ao7 h13 ar a10 a9 n9 n11 n12 n13
          walk_at "go"
          refine r_mid (fun σ' H' => ∃ (u7 u8 u10 u15 u16 u17 u18 u19 u20 u21 : Option V), σ' = [some (V.ref sc), some (.ref b.a), some mv, some (.ref x), some (.ref y), some (.ref z), some (.ref D1), u7, u8, some (.ref D2), u10, some (.ref D7), some (.ref D8), some gv, some (.ref D13), u15, u16, u17, u18, u19, u20, u21]) ?_ ?_
          · walk_at "go"
            refine r_for ?_
            walk_at "go"
            refine ⟨2, rfl, by decide, by decide, ?_⟩
            refine r_loopR (fun i σ' H' => ∃ (u7 u8 u10 u15 u16 u17 u18 u19 u20 u21 : Option V), σ' = [some (V.ref sc), some (.ref b.a), some mv, some (.ref x), some (.ref y), some (.ref z), some (.ref D1), u7, u8, some (.ref D2), u10, some (.ref D7), some (.ref D8), some gv, some (.ref D13), u15, u16, u17, u18, u19, u20, u21] ∧ Ext [] H13 H') ⟨_, _, _, _, _, _, _, _, _, _, rfl, Ext.refl⟩ ?_ ?_
            · rintro i σ' H14 hi ⟨u7, u8, u10, u15, u16, u17, u18, u19, u20, u21, rfl, e14⟩
              have fq : ∀ q ∈ fs.map (·.q), In (DD * 27720) 10000000 q := fun q hq => ((iq q hq).up W.dE).most (by decide)
              have fz : ∀ f ∈ fs, Sz 4000 f.p ∧ Sz 4000 f.q := fun f hf => ⟨(zw (W.p f hf)).mono (by decide), (zw (W.q f hf)).mono (by decide)⟩
              have lq : (fs.map (·.q)).length ≤ 10 := by rw [List.length_map]; exact ln
              walk_at "go"
              refine r_list (.inl (lst0 e14 Z.hy)) fun pa hpa => ?_
              have m1 := (Ext.refl (S := []) (H := H14)).new (o := .lst xs) hpa
              have ga : upd H14 pa (.lst xs) pa = some (.lst xs) := upd_same
              have e15 := e14.trans m1
              generalize upd H14 pa (.lst xs) = H15 at *
              walk_at "go"
              refine r_list (.inl (lst0 e15 Z.hz)) fun pb hpb => ?_
              have m2 := (Ext.refl (S := []) (H := H15)).new (o := .lst ys) hpb
              have gb : upd H15 pb (.lst ys) pb = some (.lst ys) := upd_same
              have e16 := e15.trans m2
              have ga := m2 _ _ ga fun z => nomatch z
              generalize upd H15 pb (.lst ys) = H16 at *
              walk_at "go"
              refine r_list (.inl (lst0 e16 Z.hx)) fun pc hpc => ?_
              have m3 := (Ext.refl (S := []) (H := H16)).new (o := .lst (wv fs)) hpc
              have gc : upd H16 pc (.lst (wv fs)) pc = some (.lst (wv fs)) := upd_same
              have e17 := e16.trans m3
              have ga := m3 _ _ ga fun z => nomatch z
              have gb := m3 _ _ gb fun z => nomatch z
              generalize upd H16 pc (.lst (wv fs)) = H17 at *
              have Z17 := Z.x0 e17
              walk_at "go"
              refine ⟨_, _, _, rfl, ?_⟩
              walk_at "go"
              refine ⟨true, pa, pb, xs, ys, fs, rfl, .inl (.inl ga), .inl (.inl gb), Z17.ap, Z17.aq, ln, fz, fun c1 f1 H18 hc1 g1 am1 n18 => ?_⟩
              walk_at "go"
              have Z18 := Z17.x0 n18
              have gcF : SqB K true H18 pc (wv fs) := .inl (.inl (n18 _ _ gc fun z => nomatch z))
              have gaF : SqB K true H18 pa xs := .inl (.inl (n18 _ _ ga fun z => nomatch z))
              have gbF : SqB K true H18 pb ys := .inl (.inl (n18 _ _ gb fun z => nomatch z))
              refine ⟨true, mv, pc, pa, pb, xs, ys, fs, DD, DD * 27720, 1000000, 10000000, S, rfl, gcF, gaF, gbF, Z18.ap, Z18.aq, Z18.mv, W, fun c2 f2 gs2 H19 F2 hc2 g2 am2 n19 => ?_⟩
              obtain rfl := F2.uniq F
              have Z19 := Z18.x0 n19
              walk_at "go"
              refine ⟨true, mv, pb, ys, fs.map (·.q), DD * 27720, 10000000, S, rfl, sqb0 n19 gbF, Z19.aq, Z19.mv, W.goal, fq, lq, W.E0, W.E9, W.B9, fun c3 f3 H20 hc3 g3 am3 n20 => ?_⟩
              have n1820 := n19.trans n20
              have U : TU K H20 c1 c2 c3 f1 f2 f3 fs gs2 S := ⟨n1820 _ _ g1 (fun z => nomatch z), n20 _ _ g2 (fun z => nomatch z), g3, am1.x0 n1820, am2.x0 n20, am3, ne_of_none g1 hc2, ne_of_none (n19 _ _ g1 fun z => nomatch z) hc3, ne_of_none g2 hc3⟩
              have e20 := e17.trans (n18.trans n1820)
              have ga20 : SqL K H20 pa xs := lst0 n1820 gaF
              have gb20 : SqL K H20 pb ys := lst0 n1820 gbF
              have gc20 : SqL K H20 pc (wv fs) := lst0 n1820 gcF
              have hf1 : H13 c1 = none := e17.free hc1
              have hf2 : H13 c2 = none := (e17.trans n18).free hc2
              have hf3 : H13 c3 = none := (e17.trans (n18.trans n19)).free hc3
              clear gaF gbF gcF ga gb gc Z17 Z18 Z19 g1 g2 g3 am1 am2 am3 m1 m2 m3 hpa hpb hpc e15 e16 e17 n18 n19 n20 n1820 e14
              walk_at "go"
              refine ⟨_, _, _, rfl, ?_⟩
              walk_at "go"
              refine r_mid (fun σ' H' => ∃ (d1 d2 d3 : Addr) (h1 h2 h3 : List V), σ' = [some (V.ref sc), some (.ref b.a), some mv, some (.ref x), some (.ref y), some (.ref z), some (.ref D1), u7, u8, some (.ref D2), u10, some (.ref D7), some (.ref D8), some gv, some (.ref D13), some (.int (0 + (i : Int))), some (.ref pa), some (.ref pb), some (.ref pc), some (.ref d1), some (.ref d2), some (.ref d3)] ∧ TU K H' d1 d2 d3 h1 h2 h3 fs gs2 S ∧ H13 d1 = none ∧ H13 d2 = none ∧ H13 d3 = none ∧ Ext [] H20 H') ?_ ?_
              · walk_at "go"
                refine r_dec (fun hk1 => ?_) (fun hk1 => ?_)
                · walk_at "go"
                  refine ⟨pa, xs, rfl, .inl ⟨ga20, fun ta hta => ?_⟩⟩
                  have m1 := (Ext.refl (S := []) (H := H20)).new (o := .tup xs) hta
                  have ta1 : SqT K (upd H20 ta (.tup xs)) ta xs := tupS
                  generalize upd H20 ta (.tup xs) = H21 at *
                  walk_at "go"
                  refine ⟨pb, ys, rfl, .inl ⟨lst0 m1 gb20, fun tb htb2 => ?_⟩⟩
                  have m2 := (Ext.refl (S := []) (H := H21)).new (o := .tup ys) htb2
                  have tb2 : SqT K (upd H21 tb (.tup ys)) tb ys := tupS
                  have ta2 := tup0 m2 ta1
                  generalize upd H21 tb (.tup ys) = H22 at *
                  have m02 := m1.trans m2
                  have Z22 := Z.x0 (e20.trans m02)
                  walk_at "go"
                  refine ⟨false, ta, tb, xs, ys, fs, rfl, ta2, tb2, Z22.ap, Z22.aq, ln, fz, fun q1 r1 H23 hq1 g1 am1 n23 => ?_⟩
                  have m03 := m02.trans n23
                  walk_at "go"
                  refine ⟨pc, wv fs, rfl, .inl ⟨lst0 m03 gc20, fun tc htc => ?_⟩⟩
                  have m4 := (Ext.refl (S := []) (H := H23)).new (o := .tup (wv fs)) htc
                  have tc4 : SqT K (upd H23 tc (.tup (wv fs))) tc (wv fs) := tupS
                  generalize upd H23 tc (.tup (wv fs)) = H24 at *
                  have m04 := m03.trans m4
                  walk_at "go"
                  refine ⟨pa, xs, rfl, .inl ⟨lst0 m04 ga20, fun td htd => ?_⟩⟩
                  have m5 := (Ext.refl (S := []) (H := H24)).new (o := .tup xs) htd
                  have td5 : SqT K (upd H24 td (.tup xs)) td xs := tupS
                  have tc5 := tup0 m5 tc4
                  generalize upd H24 td (.tup xs) = H25 at *
                  have m05 := m04.trans m5
                  walk_at "go"
                  refine ⟨pb, ys, rfl, .inl ⟨lst0 m05 gb20, fun te hte => ?_⟩⟩
                  have m6 := (Ext.refl (S := []) (H := H25)).new (o := .tup ys) hte
                  have te6 : SqT K (upd H25 te (.tup ys)) te ys := tupS
                  have tc6 := tup0 m6 tc5
                  have td6 := tup0 m6 td5
                  generalize upd H25 te (.tup ys) = H26 at *
                  have m06 := m05.trans m6
                  have Z26 := Z.x0 (e20.trans m06)
                  walk_at "go"
                  refine ⟨false, mv, tc, td, te, xs, ys, fs, DD, DD * 27720, 1000000, 10000000, S, rfl, tc6, td6, te6, Z26.ap, Z26.aq, Z26.mv, W, fun q2 r2 gs3 H27 F3 hq2 g2 am2 n27 => ?_⟩
                  obtain rfl := F3.uniq F
                  have m07 := m06.trans n27
                  walk_at "go"
                  refine ⟨pb, ys, rfl, .inl ⟨lst0 m07 gb20, fun tf htf => ?_⟩⟩
                  have m8 := (Ext.refl (S := []) (H := H27)).new (o := .tup ys) htf
                  have tf8 : SqT K (upd H27 tf (.tup ys)) tf ys := tupS
                  generalize upd H27 tf (.tup ys) = H28 at *
                  have m08 := m07.trans m8
                  have Z28 := Z.x0 (e20.trans m08)
                  walk_at "go"
                  refine ⟨false, mv, tf, ys, fs.map (·.q), DD * 27720, 10000000, S, rfl, tf8, Z28.aq, Z28.mv, W.goal, fq, lq, W.E0, W.E9, W.B9, fun q3 r3 H29 hq3 g3 am3 n29 => ?_⟩
                  have n27' := m4.trans (m5.trans (m6.trans n27))
                  have n2729 := m8.trans n29
                  have n2329 := n27'.trans n2729
                  walk_at "go"
                  exact ⟨q1, q2, q3, r1, r2, r3, rfl, ⟨n2329 _ _ g1 (fun z => nomatch z), n2729 _ _ g2 (fun z => nomatch z), g3, am1.x0 n2329, am2.x0 n2729, am3, ne_of_none ((m4.trans (m5.trans m6)) _ _ g1 fun z => nomatch z) hq2, ne_of_none ((n27'.trans m8) _ _ g1 fun z => nomatch z) hq3, ne_of_none (m8 _ _ g2 fun z => nomatch z) hq3⟩, (e20.trans m02).free hq1, (e20.trans m06).free hq2, (e20.trans m08).free hq3, m08.trans n29⟩
                · walk_at "go"
                  exact ⟨c1, c2, c3, f1, f2, f3, rfl, U, hf1, hf2, hf3, Ext.refl⟩
              · clear U
                rintro σ' H21 ⟨d1, d2, d3, h1, h2, h3, rfl, U, hd1, hd2, hd3, e21⟩
                have e1321 := e20.trans e21
                have ga21 := lst0 e21 ga20
                have gb21 := lst0 e21 gb20
                have gc21 := lst0 e21 gc20
                have Z21 := Z.x0 e1321
                walk_at "go"
                refine ne_list (dp_amsD Z21.ap) (amD_lay _) ga21 Z21.hy ?_
                walk_at "run"
                refine ne_list (dp_amsD Z21.aq) (amD_lay _) gb21 Z21.hz ?_
                walk_at "run"
                refine ne_list (dp_wv fs) (wv_lay fs) gc21 Z21.hx ?_
                walk_at "run"
                try walk_at "go"
                have lo1 : (fs.map (·.own)).length ≤ 4000 := by rw [List.length_map]; omega
                have lr1 : (rankQ S (fs.map (·.q))).length ≤ 4000 := by rw [rankQ_len, List.length_map]; omega
                refine k_like (ams_eqd (.inl (.inl U.h1)) Z21.ho U.a1 Z21.ao lo1 1) fun H22 n22 => ?_
                have Z22 := Z21.x0 n22
                have U := U.x0 n22
                walk_at "run"
                refine k_like (ams_eqd (.inl (.inl U.h2)) Z22.hs U.a2 Z22.at_ (by rw [lAdd]; omega) 1) fun H23 n23 => ?_
                have Z23 := Z22.x0 n23
                have U := U.x0 n23
                walk_at "run"
                refine k_like (ams_eqd (.inl (.inl U.h3)) Z23.hr U.a3 Z23.ar lr1 1) fun H24 n24 => ?_
                have Z24 := Z23.x0 n24
                have U := U.x0 n24
                have n2124 := n22.trans (n23.trans n24)
                walk_at "run"
                try walk_at "go"
                refine ⟨d3, gv, h3, rankQ S (fs.map (·.q)), DD * 27720, 10000000, rfl, .inl (.inl U.h3), U.a3, rank_in W.goal fq, W.E0, Nat.le_trans W.E9 (by decide), by rw [rankQ_len]; exact Nat.le_trans (Nat.mul_le_mul_right _ lq) (by decide), by rw [sum_rank W.goal.nn fun q hq => (fq q hq).nn]; exact Z24.gv, fun H25 n25 => ?_⟩
                have Z25 := Z24.x0 n25
                have U := U.x0 n25
                have n2125 := n2124.trans n25
                walk_at "run"
                try walk_at "go"
                refine ⟨pc, D1, pb, d2, os, ys, h2, fs, gs2, DD, DD * 27720, 1000000, 10000000, X, S, rfl, lst0 n2125 gc21, Z25.ho, lst0 n2125 gb21, .inl (.inl U.h2), Z25.ao, Z25.aq, U.a2, W, F, X0, X9, iX, fun H26 n26 => ?_⟩
                have Z26 := Z25.x0 n26
                have U := U.x0 n26
                have n2126 := n2125.trans n26
                walk_at "run"
                try walk_at "go"
                have zt : ∀ {t : Rat}, t ∈ addQ (fs.map (·.own)) gs2 → Sz 4000 t := fun ht => ((iAdd _ ht).sz (j := 220) (k := 21) (Nat.mul_pos DD0 X0) (Nat.le_trans (Nat.mul_le_mul DD9 X9) (by decide)) (by decide)).mono (by decide)
                have l1 := U.a1.1
                have l2 := U.a2.1
                rw [List.length_map] at l1
                rw [lAdd] at l2
                refine ⟨d2, d1, h2, h1, rfl, .inl ⟨.inl (.inl U.h2), .inl (.inl U.h1), fun Da hDa => ?_⟩⟩
                refine r_lcZL (xs := h2) (ys := h1) (by omega) (fun i H27 => Ext [] H26 H27 ∧ H27 Da = some (.lst ((List.replicate i false).map V.bl))) ⟨Ext.refl.new hDa, upd_same⟩ (fun i H p => ⟨.inl (.inl (p.1 _ _ U.h2 fun z => nomatch z)), .inl (.inl (p.1 _ _ U.h1 fun z => nomatch z))⟩) ?_ ?_
                · rintro j x1 y1 T H27 hx1 hy1 ⟨e27, hDb⟩ hT
                  have hj := (List.getElem?_eq_some_iff.mp hx1).1
                  have e28 : Ext [] H26 (upd H27 T (.tup [x1, y1])) := e27.new hT
                  obtain ⟨tq, htq, at1⟩ := U.a2.at_ hx1
                  obtain ⟨p, g, hp1, hg1, rfl⟩ := addQ_at htq
                  obtain ⟨p', hp2, ap1⟩ := U.a1.at_ hy1
                  rw [hp1] at hp2
                  cases hp2
                  have ip := io p (List.mem_of_getElem? hp1)
                  have ig := iX g (List.mem_of_getElem? hg1)
                  have g0 := ig.nn
                  walk_at "run"
                  refine ⟨rfl, ?_⟩
                  walk_at "run"
                  refine ⟨x1, y1, p + g, p, rfl, at1.x0 e28, ap1.x0 e28, zt (List.mem_of_getElem? htq), (zw ip).mono (by decide), ?_⟩
                  rw [decide_eq_false (by grind)]
                  have hDc : upd H27 T (.tup [x1, y1]) Da = some (.lst ((List.replicate j false).map V.bl)) := by rw [upd_ne (ne_of_none hDb hT)]; exact hDb
                  refine ⟨_, hDc, ?_, e28.own hDa, ?_⟩
                  · rw [List.length_map, List.length_replicate]
                    exact Nat.lt_of_le_of_lt (by omega : j ≤ 4000) (by decide)
                  · rw [List.replicate_succ', List.map_append]
                    exact upd_same
                · rintro H27 ⟨e27, hDb⟩
                  have Z27 := Z26.x0 e27
                  have U := U.x0 e27
                  walk_at "run"
                  refine r_any (bs := List.replicate h2.length false) (.inl (.inl hDb)) ?_
                  rw [all_false]
                  walk_at "run"
                  try walk_at "go"
                  have lz := Z27.aq.1
                  rw [List.length_map] at lz
                  refine ⟨z, d2, ys, h2, rfl, .inl ⟨Z27.hz, .inl (.inl U.h2), fun De hDe => ?_⟩⟩
                  refine r_lcZL (xs := ys) (ys := h2) (by omega) (fun i H28 => Ext [] H27 H28 ∧ H28 De = some (.lst ((List.replicate i false).map V.bl))) ⟨Ext.refl.new hDe, upd_same⟩ (fun i H p => ⟨lst0 p.1 Z27.hz, .inl (.inl (p.1 _ _ U.h2 fun z => nomatch z))⟩) ?_ ?_
                  · rintro j x1 y1 T H28 hx1 hy1 ⟨e28, hDf⟩ hT
                    have hj := (List.getElem?_eq_some_iff.mp hx1).1
                    have e29 : Ext [] H27 (upd H28 T (.tup [x1, y1])) := e28.new hT
                    obtain ⟨tq, htq, at1⟩ := U.a2.at_ hy1
                    obtain ⟨p, g, hp1, hg1, rfl⟩ := addQ_at htq
                    obtain ⟨fl, hf, rfl⟩ := fmap hp1
                    obtain ⟨q, hq1, aq1⟩ := Z27.aq.at_ hx1
                    obtain ⟨fl', hf', rfl⟩ := fmap hq1
                    rw [hf] at hf'
                    cases hf'
                    have hle := filled_le F j fl g hf hg1
                    have mf := List.mem_of_getElem? hf
                    walk_at "run"
                    refine ⟨rfl, ?_⟩
                    walk_at "run"
                    refine ⟨x1, y1, fl.q, fl.own + g, rfl, aq1.x0 e29, at1.x0 e29, (zw (W.q fl mf)).mono (by decide), zt (List.mem_of_getElem? htq), ?_⟩
                    rw [decide_eq_false (by grind)]
                    have hDg : upd H28 T (.tup [x1, y1]) De = some (.lst ((List.replicate j false).map V.bl)) := by rw [upd_ne (ne_of_none hDf hT)]; exact hDf
                    refine ⟨_, hDg, ?_, e29.own hDe, ?_⟩
                    · rw [List.length_map, List.length_replicate]
                      exact Nat.lt_of_le_of_lt (by omega : j ≤ 4000) (by decide)
                    · rw [List.replicate_succ', List.map_append]
                      exact upd_same
                  · rintro H28 ⟨e28, hDf⟩
                    have U := U.x0 e28
                    have e1328 : Ext [] H13 H28 := e1321.trans (n2126.trans (e27.trans e28))
                    walk_at "run"
                    refine r_any (bs := List.replicate ys.length false) (.inl (.inl hDf)) ?_
                    rw [all_false]
                    walk_at "run"
                    try walk_at "go"
                    refine ⟨ty_lst U.h1, ?_⟩
                    walk_at "go"
                    rename_i pt hpt
                    have m9 := (Ext.refl (S := []) (H := H28)).new (o := .tup [.int 1, .int 1]) hpt
                    have g1 := m9 _ _ U.h1 fun z => nomatch z
                    have g2 := m9 _ _ U.h2 fun z => nomatch z
                    have g3 := m9 _ _ U.h3 fun z => nomatch z
                    have e29 := e1328.trans m9
                    generalize upd H28 pt (.tup [.int 1, .int 1]) = H29 at *
                    try refine r_app g1 (by omega) ?_
                    have g2 : upd H29 d1 (.lst (h1 ++ [.ref pt])) d2 = some (.lst h2) := by rw [upd_ne U.n12.symm]; exact g2
                    have g3 : upd H29 d1 (.lst (h1 ++ [.ref pt])) d3 = some (.lst h3) := by rw [upd_ne U.n13.symm]; exact g3
                    have e30 : Ext [] H13 (upd H29 d1 (.lst (h1 ++ [.ref pt]))) := e29.own hd1
                    generalize upd H29 d1 (.lst (h1 ++ [.ref pt])) = H30 at *
                    walk_at "go"
                    refine ⟨ty_lst g2, d2, h2, rfl, rfl, g2, ?_⟩
                    have g3 : upd H30 d2 (.lst []) d3 = some (.lst h3) := by rw [upd_ne U.n23.symm]; exact g3
                    have e31 : Ext [] H13 (upd H30 d2 (.lst [])) := e30.own hd2
                    generalize upd H30 d2 (.lst []) = H31 at *
                    walk_at "go"
                    refine ⟨ty_lst g3, d3, h3, rfl, rfl, g3, ?_⟩
                    walk_at "go"
                    exact ⟨_, _, _, _, _, _, _, _, _, _, rfl, e31.own hd3⟩
            · rintro σ' H14 ⟨u7, u8, u10, u15, u16, u17, u18, u19, u20, u21, rfl, e14⟩
              exact ⟨_, _, _, _, _, _, _, _, _, _, rfl⟩
          · rintro σ' H14 ⟨u7, u8, u10, u15, u16, u17, u18, u19, u20, u21, rfl⟩
            walk_at "go"
            exact k _
end
end Yk

set_option maxHeartbeats 0
namespace YkHead
open PySem PySem.Spec PyProof.Rows L2 Yk
theorem facts {P : Program} {w : World} {K : PySem.W.Frag} {h : Heap} {mg : Str → Option Value} {f : Addr} (X : K.In h) (G : h.Ns mainGlobals mg) (hfa : mg ("law" : Str) = some (.ref f)) (c0 : Hk.SaysTb fa fn tf ex h K) :
    ∃ fd : FuncData, (∀ (s : Shared) (v : Value), BindsTo s fd ⟨[v], []⟩ [("_law_script", v)]) ∧ ∀ base : Heap, K.In base → base.Ns mainGlobals mg → (∀ p ∈ [He.cT K ("_law_extras", none)], LamX.TabB base mg p.1 p.2) → FnOk P w K mg base CX0 14 f fd ["_law_script"] (spLaw34 (He.cT K ("_law_extras", none)).2 K) := by
  have c := c0.s
  have m : ex K = true := c.more
  unfold ex at m
  try simp only [Bool.and_eq_true] at m
  have T0 : Bt mg := ⟨(He.free_ok X G (c.fact 47 (f := .free "int") rfl)), (He.free_ok X G (c.fact 49 (f := .free "len") rfl)), (He.free_ok X G (c.fact 50 (f := .free "list") rfl)), (He.free_ok X G (c.fact 57 (f := .free "tuple") rfl)), (He.free_ok X G (c.fact 55 (f := .free "str") rfl)), (He.free_ok X G (c.fact 45 (f := .free "bool") rfl)), (He.free_ok X G (c.fact 51 (f := .free "max") rfl)), (He.free_ok X G (c.fact 52 (f := .free "min") rfl)), (He.free_ok X G (c.fact 43 (f := .free "all") rfl)), (He.free_ok X G (c.fact 44 (f := .free "any") rfl)), (He.free_ok X G (c.fact 56 (f := .free "sum") rfl)), (He.free_ok X G (c.fact 48 (f := .free "isinstance") rfl)), (He.free_ok X G (c.fact 58 (f := .free "zip") rfl)), (He.free_ok X G (c.fact 53 (f := .free "range") rfl)), (He.free_ok X G (c.fact 46 (f := .free "divmod") rfl))⟩
  have Tsorted := (He.free_ok X G (c.fact 54 (f := .free "sorted") rfl))
  have T1 : Bg mg := ⟨T0, PySem.W.mg_of X G (He.eqO_ok m.1.1)⟩
  have tup_ZERO : ∃ z, mg "ZERO" = some (.ref z) ∧ ∀ H, SqT K H z [.int 0, .int 1] := ⟨He.ga K "ZERO", PySem.W.mg_of X G (He.eqO_ok m.1.2), fun H => He.tupB_ok m.2 H⟩
  obtain ⟨d_added, D_added⟩ := c.def_ 2 (d := dD "_added" 9) rfl
  obtain ⟨d_product, D_product⟩ := c.def_ 5 (d := dD "_product" 12) rfl
  obtain ⟨d_times, D_times⟩ := c.def_ 3 (d := dD "times" 10) rfl
  obtain ⟨d_compare, D_compare⟩ := c.def_ 6 (d := dD "compare" 13) rfl
  obtain ⟨d_minus, D_minus⟩ := c.def_ 1 (d := dD "minus" 8) rfl
  obtain ⟨d_over, D_over⟩ := c.def_ 4 (d := dD "over" 11) rfl
  obtain ⟨d_plus, D_plus⟩ := c.def_ 0 (d := dD "plus" 7) rfl
  obtain ⟨d_smallest, D_smallest⟩ := c.def_ 7 (d := dD "smallest" 14) rfl
  obtain ⟨d_largest, D_largest⟩ := c.def_ 8 (d := dD "largest" 15) rfl
  obtain ⟨d_share, D_share⟩ := c.def_ 9 (d := dD "share" 17) rfl
  obtain ⟨d_total, D_total⟩ := c.def_ 10 (d := dD "total" 18) rfl
  obtain ⟨d_merged, D_merged⟩ := c.def_ 18 (d := dD "_merged" 27) rfl
  obtain ⟨d_ascending, D_ascending⟩ := c.def_ 17 (d := dD "_ascending" 26) rfl
  obtain ⟨d_breaks, D_breaks⟩ := c.def_ 14 (d := dD "_breaks" 23) rfl
  obtain ⟨d_first_reaching, D_first_reaching⟩ := c.def_ 15 (d := dD "_first_reaching" 24) rfl
  obtain ⟨d_on_line, D_on_line⟩ := c.def_ 16 (d := dD "_on_line" 25) rfl
  obtain ⟨d_least_reaching, D_least_reaching⟩ := c.def_ 13 (d := dD "_least_reaching" 22) rfl
  obtain ⟨d_allotments, D_allotments⟩ := c.def_ 11 (d := dD "allotments" 20) rfl
  obtain ⟨d_spare_shares, D_spare_shares⟩ := c.def_ 12 (d := dD "spare_shares" 21) rfl
  obtain ⟨d_law_bag, D_law_bag⟩ := c.def_ 22 (d := dD "_law_bag" 33) rfl
  obtain ⟨d_law_draw, D_law_draw⟩ := c.def_ 23 (d := dD "_law_draw" 34) rfl
  obtain ⟨d_law_of, D_law_of⟩ := c.def_ 24 (d := dD "_law_of" 35) rfl
  obtain ⟨d_law_mixed, D_law_mixed⟩ := c.def_ 25 (d := dD "_law_mixed" 36) rfl
  obtain ⟨d_law_amount, D_law_amount⟩ := c.def_ 26 (d := dD "_law_amount" 37) rfl
  obtain ⟨d_law_sum, D_law_sum⟩ := c.def_ 27 (d := dD "_law_sum" 38) rfl
  obtain ⟨d_law_rest, D_law_rest⟩ := c.def_ 28 (d := dD "_law_rest" 39) rfl
  obtain ⟨d_law_less, D_law_less⟩ := c.def_ 30 (d := dD "_law_less" 41) rfl
  obtain ⟨d_law_min, D_law_min⟩ := c.def_ 31 (d := dD "_law_min" 42) rfl
  obtain ⟨d_law_scaled, D_law_scaled⟩ := c.def_ 29 (d := dD "_law_scaled" 40) rfl
  obtain ⟨d_law_same, D_law_same⟩ := c.def_ 33 (d := dD "_law_same" 44) rfl
  obtain ⟨d_law_some, D_law_some⟩ := c.def_ 34 (d := dD "_law_some" 45) rfl
  obtain ⟨d_law_part, D_law_part⟩ := c.def_ 35 (d := dD "_law_part" 46) rfl
  obtain ⟨d_law_all, D_law_all⟩ := c.def_ 32 (d := dD "_law_all" 43) rfl
  obtain ⟨d_own_sends, D_own_sends⟩ := c.def_ 19 (d := dD "own_sends" 29) rfl
  obtain ⟨d_spare_sends, D_spare_sends⟩ := c.def_ 20 (d := dD "spare_sends" 30) rfl
  obtain ⟨d_rank_sends, D_rank_sends⟩ := c.def_ 21 (d := dD "rank_sends" 31) rfl
  obtain ⟨d_law_drawn, D_law_drawn⟩ := c.def_ 37 (d := dD "_law_drawn" 48) rfl
  obtain ⟨d_law_ranked, D_law_ranked⟩ := c.def_ 40 (d := dD "_law_ranked" 51) rfl
  obtain ⟨d_law_sums_up, D_law_sums_up⟩ := c.def_ 38 (d := dD "_law_sums_up" 49) rfl
  obtain ⟨d_law_level_extras, D_law_level_extras⟩ := c.def_ 39 (d := dD "_law_level_extras" 50) rfl
  obtain ⟨d_law_extras, D_law_extras⟩ := c.def_ 36 (d := dD "_law_extras" 47) rfl
  obtain ⟨d_law, D_law⟩ := c.def_ 41 (d := dD "law" 52) rfl
  have e := hfa.symm.trans (He.glo_ok X G (c.fact 41 (f := .glo "law") rfl))
  cases e
  refine ⟨d_law, fun s v => (FunD.bindsA (ps := ["_law_script"]) D_law fun _ _ _ _ _ _ us hl => match us, hl with | [_], _ => rfl) s [v] rfl, fun base _ _ hTB => ?_⟩
  have F_added := f_added (P := P) (w := w) (base := base) D_added (He.glo_ok X G (c.fact 2 (f := .glo "_added") rfl)) T1
  have F_product := f_product (P := P) (w := w) (base := base) D_product (He.glo_ok X G (c.fact 5 (f := .glo "_product") rfl)) T1
  have Ftimes := f_times (P := P) (w := w) (base := base) D_times (He.glo_ok X G (c.fact 3 (f := .glo "times") rfl)) F_product
  have Fcompare := f_compare (P := P) (w := w) (base := base) D_compare (He.glo_ok X G (c.fact 6 (f := .glo "compare") rfl)) 
  have Fminus := f_minus (P := P) (w := w) (base := base) D_minus (He.glo_ok X G (c.fact 1 (f := .glo "minus") rfl)) Fcompare F_added
  have Fover := f_over (P := P) (w := w) (base := base) D_over (He.glo_ok X G (c.fact 4 (f := .glo "over") rfl)) tup_ZERO F_product
  have Fplus := f_plus (P := P) (w := w) (base := base) D_plus (He.glo_ok X G (c.fact 0 (f := .glo "plus") rfl)) tup_ZERO F_added
  have Fsmallest := f_smallest (P := P) (w := w) (base := base) D_smallest (He.glo_ok X G (c.fact 7 (f := .glo "smallest") rfl)) Fcompare
  have Flargest := f_largest (P := P) (w := w) (base := base) D_largest (He.glo_ok X G (c.fact 8 (f := .glo "largest") rfl)) Fcompare
  have Oshare := f_share (P := P) (w := w) (base := base) D_share (He.glo_ok X G (c.fact 9 (f := .glo "share") rfl)) tup_ZERO Ftimes Fsmallest Flargest
  have Fshare := fn_of_ok D_share (He.glo_ok X G (c.fact 9 (f := .glo "share") rfl)) Oshare (fun _ _ _ _ _ _ us hl => match us, hl with | [_, _, _], _ => rfl)
  have Ototal := f_total (P := P) (w := w) (base := base) D_total (He.glo_ok X G (c.fact 10 (f := .glo "total") rfl)) Fshare Fplus Fsmallest
  have Ftotal := fn_of_ok D_total (He.glo_ok X G (c.fact 10 (f := .glo "total") rfl)) Ototal (fun _ _ _ _ _ _ us hl => match us, hl with | [_, _], _ => rfl)
  have Stotal := fs_of_ok D_total (He.glo_ok X G (c.fact 10 (f := .glo "total") rfl)) Ototal (fun _ _ _ _ _ _ _ _ => rfl)
  have F_merged := f_merged (P := P) (w := w) (base := base) D_merged (He.glo_ok X G (c.fact 18 (f := .glo "_merged") rfl)) T0 Fcompare
  have F_ascending0 : Fn P w K mg base 2 "_ascending" (spAsc K 0) := fn_none D_ascending (He.glo_ok X G (c.fact 17 (f := .glo "_ascending") rfl))
  have F_ascending1 := f_ascending D_ascending (He.glo_ok X G (c.fact 17 (f := .glo "_ascending") rfl)) T0 0 F_ascending0 F_merged
  have F_ascending2 := f_ascending D_ascending (He.glo_ok X G (c.fact 17 (f := .glo "_ascending") rfl)) T0 1 F_ascending1 F_merged
  have F_ascending3 := f_ascending D_ascending (He.glo_ok X G (c.fact 17 (f := .glo "_ascending") rfl)) T0 2 F_ascending2 F_merged
  have F_ascending4 := f_ascending D_ascending (He.glo_ok X G (c.fact 17 (f := .glo "_ascending") rfl)) T0 3 F_ascending3 F_merged
  have F_ascending5 := f_ascending D_ascending (He.glo_ok X G (c.fact 17 (f := .glo "_ascending") rfl)) T0 4 F_ascending4 F_merged
  have F_ascending6 := f_ascending D_ascending (He.glo_ok X G (c.fact 17 (f := .glo "_ascending") rfl)) T0 5 F_ascending5 F_merged
  have F_ascending7 := f_ascending D_ascending (He.glo_ok X G (c.fact 17 (f := .glo "_ascending") rfl)) T0 6 F_ascending6 F_merged
  have F_ascending := F_ascending7
  have F_breaks := f_breaks (P := P) (w := w) (base := base) D_breaks (He.glo_ok X G (c.fact 14 (f := .glo "_breaks") rfl)) T0 tup_ZERO Fover Fcompare F_ascending
  have F_first_reaching := f_first_reaching (P := P) (w := w) (base := base) D_first_reaching (He.glo_ok X G (c.fact 15 (f := .glo "_first_reaching") rfl)) T0 Ftotal Fcompare
  have F_on_line := f_on_line (P := P) (w := w) (base := base) D_on_line (He.glo_ok X G (c.fact 16 (f := .glo "_on_line") rfl)) Ftotal Fminus Fover Ftimes Fplus
  have F_least_reaching := f_least_reaching (P := P) (w := w) (base := base) D_least_reaching (He.glo_ok X G (c.fact 13 (f := .glo "_least_reaching") rfl)) T0 F_breaks F_first_reaching F_on_line
  have Oallotments := f_allotments (P := P) (w := w) (base := base) D_allotments (He.glo_ok X G (c.fact 11 (f := .glo "allotments") rfl)) Fshare Fsmallest
  have Fallotments := fn_of_ok D_allotments (He.glo_ok X G (c.fact 11 (f := .glo "allotments") rfl)) Oallotments (fun _ _ _ _ _ _ us hl => match us, hl with | [_, _], _ => rfl)
  have Sallotments := fs_of_ok D_allotments (He.glo_ok X G (c.fact 11 (f := .glo "allotments") rfl)) Oallotments (fun _ _ _ _ _ _ _ _ => rfl)
  have Ospare_shares := f_spare_shares (P := P) (w := w) (base := base) D_spare_shares (He.glo_ok X G (c.fact 12 (f := .glo "spare_shares") rfl)) tup_ZERO Flargest Fallotments F_least_reaching
  have Fspare_shares := fn_of_ok D_spare_shares (He.glo_ok X G (c.fact 12 (f := .glo "spare_shares") rfl)) Ospare_shares (fun _ _ _ _ _ _ us hl => match us, hl with | [_, _], _ => rfl)
  have Sspare_shares := fs_of_ok D_spare_shares (He.glo_ok X G (c.fact 12 (f := .glo "spare_shares") rfl)) Ospare_shares (fun _ _ _ _ _ _ _ _ => rfl)
  have F_law_bag := f_law_bag (P := P) (w := w) (base := base) D_law_bag (He.glo_ok X G (c.fact 22 (f := .glo "_law_bag") rfl)) T0
  have F_law_draw := f_law_draw (P := P) (w := w) (base := base) D_law_draw (He.glo_ok X G (c.fact 23 (f := .glo "_law_draw") rfl)) T0
  have F_law_of := f_law_of (P := P) (w := w) (base := base) D_law_of (He.glo_ok X G (c.fact 24 (f := .glo "_law_of") rfl)) T0 F_law_draw
  have F_law_mixed := f_law_mixed (P := P) (w := w) (base := base) D_law_mixed (He.glo_ok X G (c.fact 25 (f := .glo "_law_mixed") rfl)) T0 F_law_draw
  have F_law_amount := f_law_amount (P := P) (w := w) (base := base) D_law_amount (He.glo_ok X G (c.fact 26 (f := .glo "_law_amount") rfl)) T0
  have F_law_sum := f_law_sum (P := P) (w := w) (base := base) D_law_sum (He.glo_ok X G (c.fact 27 (f := .glo "_law_sum") rfl)) F_law_amount
  have F_law_rest := f_law_rest (P := P) (w := w) (base := base) D_law_rest (He.glo_ok X G (c.fact 28 (f := .glo "_law_rest") rfl)) T0 F_law_amount
  have F_law_less := f_law_less (P := P) (w := w) (base := base) D_law_less (He.glo_ok X G (c.fact 30 (f := .glo "_law_less") rfl)) 
  have F_law_min := f_law_min (P := P) (w := w) (base := base) D_law_min (He.glo_ok X G (c.fact 31 (f := .glo "_law_min") rfl)) F_law_less
  have F_law_scaled := f_law_scaled (P := P) (w := w) (base := base) D_law_scaled (He.glo_ok X G (c.fact 29 (f := .glo "_law_scaled") rfl)) F_law_amount
  have F_law_same0 : Fn P w K mg base 0 "_law_same" (spLike K 0) := fn_none D_law_same (He.glo_ok X G (c.fact 33 (f := .glo "_law_same") rfl))
  have F_law_same1 := f_law_same D_law_same (He.glo_ok X G (c.fact 33 (f := .glo "_law_same") rfl)) T0 0 F_law_same0
  have F_law_same2 := f_law_same D_law_same (He.glo_ok X G (c.fact 33 (f := .glo "_law_same") rfl)) T0 1 F_law_same1
  have F_law_same3 := f_law_same D_law_same (He.glo_ok X G (c.fact 33 (f := .glo "_law_same") rfl)) T0 2 F_law_same2
  have F_law_same4 := f_law_same D_law_same (He.glo_ok X G (c.fact 33 (f := .glo "_law_same") rfl)) T0 3 F_law_same3
  have F_law_same := F_law_same4
  have F_law_some := f_law_some (P := P) (w := w) (base := base) D_law_some (He.glo_ok X G (c.fact 34 (f := .glo "_law_some") rfl)) T0 F_law_draw F_law_of F_law_amount
  have F_law_part := f_law_part (P := P) (w := w) (base := base) D_law_part (He.glo_ok X G (c.fact 35 (f := .glo "_law_part") rfl)) T0 F_law_of F_law_scaled
  have F_law_all := f_law_all (P := P) (w := w) (base := base) D_law_all (He.glo_ok X G (c.fact 32 (f := .glo "_law_all") rfl)) F_law_sum
  have Gplus := g_plus (P := P) (w := w) (base := base) D_plus (He.glo_ok X G (c.fact 0 (f := .glo "plus") rfl)) tup_ZERO F_added
  have Fown_sends := f_own_sends (P := P) (w := w) (base := base) D_own_sends (He.glo_ok X G (c.fact 19 (f := .glo "own_sends") rfl)) T0 Fsmallest
  have Fspare_sends := f_spare_sends (P := P) (w := w) (base := base) D_spare_sends (He.glo_ok X G (c.fact 20 (f := .glo "spare_sends") rfl)) T0 Fminus Fplus Fown_sends Fspare_shares
  have Frank_sends := f_rank_sends (P := P) (w := w) (base := base) D_rank_sends (He.glo_ok X G (c.fact 21 (f := .glo "rank_sends") rfl)) T0 Fminus Fsmallest
  have F_law_drawn := f_law_drawn (P := P) (w := w) (base := base) D_law_drawn (He.glo_ok X G (c.fact 37 (f := .glo "_law_drawn") rfl)) T0 F_law_of F_law_sum F_law_rest F_law_scaled F_law_some F_law_part F_law_mixed
  have F_law_ranked := f_law_ranked (P := P) (w := w) (base := base) D_law_ranked (He.glo_ok X G (c.fact 40 (f := .glo "_law_ranked") rfl)) T0 F_law_sum F_law_rest F_law_min
  have F_law_sums_up := f_law_sums_up (P := P) (w := w) (base := base) D_law_sums_up (He.glo_ok X G (c.fact 38 (f := .glo "_law_sums_up") rfl)) F_law_all F_law_same
  have F_law_level_extras := f_law_level_extras (P := P) (w := w) (base := base) D_law_level_extras (He.glo_ok X G (c.fact 39 (f := .glo "_law_level_extras") rfl)) T0 F_law_rest F_law_less F_law_scaled
  have F_law_extras := f_law_extras (P := P) (w := w) (base := base) D_law_extras (He.glo_ok X G (c.fact 36 (f := .glo "_law_extras") rfl)) (Hk.code_of (x := "_law_extras") D_law_extras) (hTB _ (List.mem_singleton.mpr rfl)) Tsorted T0 F_law_rest F_law_min F_law_scaled
  exact f_law (P := P) (w := w) (base := base) D_law (He.glo_ok X G (c.fact 41 (f := .glo "law") rfl)) T0 F_law_bag F_law_drawn F_law_extras F_law_sum F_law_min F_law_rest F_law_less F_law_all F_law_same F_law_sums_up F_law_level_extras F_law_ranked Fown_sends Fspare_sends Frank_sends
end YkHead
open PySem PySem.W PySem.Calls PyProof.Rows in
theorem PySem.Challenge.cw_bandheld_k34_whole_disciplines_holds : PySem.Challenge.rw_bandheld_k34_whole_disciplines.Holds := by
  w_on; o_law
  refine HandSHeadRun.head_imp (r := OpenLaw.row PySem.Challenge.rw_bandheld_k34_whole_disciplines) (q := view (OpenLaw.row PySem.Challenge.rw_bandheld_k34_whole_disciplines).prog [0, 52]) (H := YkHead.hk) (ob := YkHead.ob) (M := 8000) (loose := YkHead.loose) (d := HandSHeadRun.topDef (OpenLaw.row PySem.Challenge.rw_bandheld_k34_whole_disciplines).prog 52) (kwd := []) YkHead.ob_eq YkHead.run
    (by kernel_rfl) (by kernel_rfl) (by kernel_rfl) (by rfl) (by first | assumption | decide +kernel) (by decide +kernel) ⟨rfl, rfl, rfl, rfl, rfl, by decide +kernel⟩ ?hw ?hc
  case hw => w_witness2
  case hc =>
    refine Hk.walk_ofET (l := PySem.Challenge.rw_bandheld_k34_whole_disciplines) (n := 63) (k := 14) (x := "_law_script") (CX := L2.CX0) rfl (by decide) (by kernel_rfl) ⟨rfl, by decide, by decide⟩ ?F (fun _ _ _ _ z => z)
    intro w mg fa h Y G hmg0
    obtain ⟨K, KX, c⟩ := Y
    have hmg : mg ("law" : PySem.Str) = some (.ref fa) := by
      have e : (HandSHeadRun.topDef (OpenLaw.row PySem.Challenge.rw_bandheld_k34_whole_disciplines).prog 52).name = ("law" : PySem.Str) := by kernel_rfl
      rw [← e]
      exact hmg0
    obtain ⟨fd, hb, hF⟩ := YkHead.facts (P := (PySem.Challenge.rw_bandheld_k34_whole_disciplines).prog) (w := w) KX G hmg c
    exact ⟨K, fd, [He.cT K ("_law_extras", none)], Yk.spLaw34 (He.cT K ("_law_extras", none)).2 K, KX, (fun p hp => by rw [List.mem_singleton.mp hp]; exact c.empty _ (List.mem_singleton.mpr rfl)), (fun p hp => by rw [List.mem_singleton.mp hp]; exact c.out _ (List.mem_singleton.mpr rfl)), (fun p hp => by rw [List.mem_singleton.mp hp]; exact PySem.W.codeHd_of_K KX (c.hd _ (List.mem_singleton.mpr rfl))), hb, fun H a ns hl hT hS => ⟨a, ns, rfl, hS, hl, hT _ (List.mem_singleton.mpr rfl), fun _ => rfl⟩, hF⟩

