import PyProof.Rows.All
import Wide.All
import OpenK.AllK
import Wide.FinOn
import HandS.ForMost
import HandS.Defaults
import HandS.Star
import HandS.Gcd
import HandS.Wide
import HandS.HeadHook4
import HandS.NoneIn
import HandS.IsInst
import HandS.Zip
import HandS.HeadEnd
import HandS.Head3
import HandS.Property
import HandS.MakeKw
import HandS.MakeKwOnly
import HandS.More
import HandS.ClsMeth
import HandS.Text
import HandS.StrMore
import HandS.FStr
import HandS.Style
import HandS.WideBits
import HandS.DictComp
import HandS.Walk
import HandS.Strs
import HandS.OwnEq
import HandS.Replace
import HandS.Finally
import HandS.DeepEq
import KE.KDictCopyH
import PySem.Challenge.RW_bandheld_k35_senders_told
set_option Elab.async false
set_option linter.all false
set_option maxRecDepth 100000
set_option maxHeartbeats 1000000
/-! The layer over the hand layer: what is kept from heap to heap, amounts as rational numbers, readings step by step. -/
namespace Yk
open PySem PySem.Spec PyProof.Rows L2

/-! ### what is kept: all that is tracked, but what stands at S -/
def Ext (S : List Addr) (H H' : Hp) : Prop := ∀ a o, H a = some o → a ∉ S → H' a = some o
theorem Ext.refl {S : List Addr} {H : Hp} : Ext S H H := fun _ _ h _ => h
theorem Ext.trans {S : List Addr} {H H1 H2 : Hp} (a : Ext S H H1) (b : Ext S H1 H2) : Ext S H H2 := fun x o h n => b x o (a x o h n) n
theorem Ext.mono {S T : List Addr} {H H1 : Hp} (a : Ext S H H1) (h : ∀ x ∈ S, x ∈ T) : Ext T H H1 := fun x o e n => a x o e fun z => n (h x z)
theorem Ext.of0 {T : List Addr} {H H1 : Hp} (a : Ext [] H H1) : Ext T H H1 := a.mono fun _ z => nomatch z
theorem Ext.new {S : List Addr} {H H1 : Hp} {p : Addr} {o : HO} (e : Ext S H H1) (h : H1 p = none) : Ext S H (upd H1 p o) := fun a u ha n => by
  have h1 := e a u ha n
  rw [upd_ne (ne_of_none h1 h)]
  exact h1
theorem Ext.at_ {S : List Addr} {H H1 : Hp} {p : Addr} {o : HO} (e : Ext S H H1) (h : p ∈ S) : Ext S H (upd H1 p o) := fun a u ha n => by
  have h1 : a ≠ p := fun z => n (by rw [z]; exact h)
  rw [upd_ne h1]
  exact e a u ha n
/-- what is new to H may change -/
theorem Ext.own {S : List Addr} {H H1 : Hp} {p : Addr} {o : HO} (e : Ext S H H1) (h : H p = none) : Ext S H (upd H1 p o) := fun a u ha n => by
  rw [upd_ne (ne_of_none ha h)]
  exact e a u ha n
theorem Ext.free {H H1 : Hp} (e : Ext [] H H1) {p : Addr} (h : H1 p = none) : H p = none := by
  cases h1 : H p with
  | none => rfl
  | some o =>
    rw [e p o h1 (fun z => nomatch z)] at h
    cases h
theorem Ext.freeS {S : List Addr} {H H1 : Hp} (e : Ext S H H1) {p : Addr} (h : H1 p = none) (hs : ∀ a ∈ S, H1 a ≠ none) : H p = none := by
  cases h1 : H p with
  | none => rfl
  | some o =>
    rw [e p o h1 (fun z => hs p z h)] at h
    cases h

/-- the tuple at a, the list at a, carried on -/
theorem tupX {S : List Addr} {K : PySem.W.Frag} {H H1 : Hp} {a : Addr} {xs : List V} (e : Ext S H H1) (h : SqT K H a xs) (hs : ∀ b ∈ S, ∃ l, H b = some (.lst l)) : SqT K H1 a xs := by
  rcases h with (h | ⟨o, h⟩) | h
  · exact .inl (.inl (e a _ h fun z => by obtain ⟨l, q⟩ := hs a z; rw [h] at q; cases q))
  · exact .inl (.inr ⟨o, e a _ h fun z => by obtain ⟨l, q⟩ := hs a z; rw [h] at q; cases q⟩)
  · exact .inr h
theorem tup0 {K : PySem.W.Frag} {H H1 : Hp} {a : Addr} {xs : List V} (e : Ext [] H H1) (h : SqT K H a xs) : SqT K H1 a xs := tupX e h fun _ z => nomatch z
theorem tupN {K : PySem.W.Frag} {H : Hp} {a p : Addr} {o : HO} {xs : List V} (h : SqT K H a xs) (hp : H p = none) : SqT K (upd H p o) a xs := tup0 (Ext.refl.new hp) h
theorem tupW {K : PySem.W.Frag} {H : Hp} {a p : Addr} {l l' : List V} {xs : List V} (h : SqT K H a xs) (hp : H p = some (.lst l)) : SqT K (upd H p (.lst l')) a xs :=
  tupX (S := [p]) (Ext.refl.at_ List.mem_cons_self) h fun b hb => by rw [List.mem_singleton.mp hb]; exact ⟨l, hp⟩
theorem tupS {K : PySem.W.Frag} {H : Hp} {p : Addr} {xs : List V} : SqT K (upd H p (.tup xs)) p xs := .inl (.inl upd_same)
theorem lstX {S : List Addr} {K : PySem.W.Frag} {H H1 : Hp} {a : Addr} {xs : List V} (e : Ext S H H1) (h : SqL K H a xs) (hs : a ∉ S) : SqL K H1 a xs := by
  rcases h with (h | ⟨o, h⟩) | h
  · exact .inl (.inl (e a _ h hs))
  · exact .inl (.inr ⟨o, e a _ h hs⟩)
  · exact .inr h
theorem lst0 {K : PySem.W.Frag} {H H1 : Hp} {a : Addr} {xs : List V} (e : Ext [] H H1) (h : SqL K H a xs) : SqL K H1 a xs := lstX e h fun z => nomatch z
theorem lstN {K : PySem.W.Frag} {H : Hp} {a p : Addr} {o : HO} {xs : List V} (h : SqL K H a xs) (hp : H p = none) : SqL K (upd H p o) a xs := lst0 (Ext.refl.new hp) h
theorem lstS {K : PySem.W.Frag} {H : Hp} {p : Addr} {xs : List V} : SqL K (upd H p (.lst xs)) p xs := .inl (.inl upd_same)

/-! ### a def by its name -/
section
variable (P : Program) (w : World) (K : PySem.W.Frag) (mg : Str → Option Value) (base : Heap)
structure Fn (k : Nat) (x : Str) (sp : Sp) : Prop where
  run : ∃ f, mg x = some (.ref f) ∧ PySem.W.keepIn K (.ref f) = true ∧ FnR P w K mg base CX0 k f sp
end
section
variable {X : Cx} {k : Nat} {sp : Sp} {x : Str} {p pos : Pos} {e : Expr} {es : List Expr} {t : TA}
def tR (sp : Sp) (t : TA) : TE := fun σ H Q => t σ H fun vs H1 => sp vs H1 Q E0
theorem pe_fn (F : Fn X.prog X.w X.K X.mg X.base k x sp) (hr : Room k X.A) (ha : PA X (e :: es) t) (hg : Gl X x := by rfl) (hdb : (x == ("__debug__" : Str)) = false := by decide)
    (hx : Passes CX0 X E0 := by exact pass0)
    (he : starEach (e :: es) X.env = (false, eval e X.env) :: starEach es X.env := by rfl) (hpl : (backTo pos (starEach es X.env)).any (·.1) = false := by rfl) :
    PE X (.Call (.Name x p) (e :: es) [] pos) (tR sp t) := by
  obtain ⟨f, hm, hk, F⟩ := F.run
  refine ⟨fun pins s σ H Q I h => ?_⟩
  refine wpAny_Call_Name_kw (ld_glob I hg hm ?_ hdb)
  refine PySem.W.callWith_K (h₀ := X.base) I.ok.mod.kin hk (thn (ha.run pos pins s σ H _ I h) fun us s1 ⟨vs, H1, I1, r, q⟩ => ⟨I1.kIn, ?_⟩) he hpl
  exact wpAny_call (run_fnR F hr hx I1 r q)
theorem Fn.mono {P : Program} {w : World} {K : PySem.W.Frag} {mg : Str → Option Value} {base : Heap} {j k : Nat} {x : Str} {sp : Sp} (F : Fn P w K mg base j x sp) (h : j ≤ k) : Fn P w K mg base k x sp := by
  obtain ⟨f, hm, hk, F⟩ := F.run
  exact ⟨f, hm, hk, F.mono h⟩
end
/-- how a def of the text keeps a promise -/
theorem fn_def {P : Program} {w : World} {K : PySem.W.Frag} {mg : Str → Option Value} {base : Heap} {x : Str} {params : Arguments} {body : List Stmt} {scope : Scope} {f : Addr} {fd : FuncData} {N ps : List Str} {k : Nat} {sp : Sp}
    (F : FunD K x x params body scope [] [] f fd) (hm : mg x = some (.ref f)) (S : FnScope N ps scope) (len : ∀ vs H Q E, sp vs H Q E → vs.length = ps.length)
    (hb : ∀ (kV doc pm : Value) (an : Option Addr) (cdv ct : Value) (us : List Value), us.length = ps.length → bindArgs (PySem.W.fnOf x x params body scope .none kV doc pm an cdv ct) ⟨us, []⟩ = pure (ps.zip us))
    (hbody : ∀ (cdv : Value) (A : Around) (outer : List Env) (s : Shared) (H : Hp) (vs : List V) (Q : VK) (E : XK), Room k (A.deeper (envOfC x scope s.heap.objs.size f cdv)) → sp vs H Q E →
      ∃ t, PSs (cxOf CX0 P w K mg base N x scope f cdv A outer s H E).nox body t ∧ t ⟨fun _ H' => Q .non H', Q, fun _ _ => False, fun _ _ => False⟩ (start N vs) H) : Fn P w K mg base (k + 1) x sp := by
  have G : FnOk P w K mg base CX0 (k + 1) f fd ps sp := F.ok S len fun cdv A outer s H vs Q E hr h => by
    obtain ⟨t, h1, h2⟩ := hbody cdv A outer s H vs Q E hr h
    exact ⟨t, h1.nox, h2⟩
  have b := F.bindsN hb
  have R := G.raw b .nil
  refine ⟨f, hm, F.kp, R.imp fun vs H Q E h => ?_⟩
  rw [List.append_nil]
  exact h

/-! ### len, list by names -/
def rLn (K : PySem.W.Frag) : List V → Hp → VK → Prop := fun xs H Q => ∃ p ys, xs = [.ref p] ∧ (SqL K H p ys ∨ SqT K H p ys) ∧ Q (.int ys.length) H
def rLs (K : PySem.W.Frag) : List V → Hp → VK → Prop := fun xs H Q => ∃ p ys, xs = [.ref p] ∧ (SqL K H p ys ∨ SqT K H p ys) ∧ ∀ l, H l = none → Q (.ref l) (upd H l (.lst ys))
section
variable {X : Cx}
theorem cr_len : CallR X (.builtin "len") (rLn X.K) := call_len_seq
theorem cr_list : CallR X (.type "list") (rLs X.K) := call_list_of
end
/-! ### readings, one step each -/
section
variable {nx : L2.St → Hp → Prop} {rt : VK} {bk ct : L2.St → Hp → Prop} {σ : L2.St} {H : Hp} {K : PySem.W.Frag} {Q : VK} {t u : TS} {te ta tb : TE} {g : TG} {c : TT} {v x y : V}
theorem r_seq (h : t ⟨u ⟨nx, rt, bk, ct⟩, rt, bk, ct⟩ σ H) : tSeq t u ⟨nx, rt, bk, ct⟩ σ H := h
theorem r_next (h : nx σ H) : tNext ⟨nx, rt, bk, ct⟩ σ H := h
theorem r_asg (h : te σ H fun x H1 => g x σ H1 nx) : tAsg te g ⟨nx, rt, bk, ct⟩ σ H := h
theorem r_ret (h : te σ H rt) : tRet te ⟨nx, rt, bk, ct⟩ σ H := h
theorem r_drop (h : te σ H fun _ H1 => nx σ H1) : tDrop te ⟨nx, rt, bk, ct⟩ σ H := h
theorem r_ifS (h : c σ H fun b H1 => if b = true then t ⟨nx, rt, bk, ct⟩ σ H1 else u ⟨nx, rt, bk, ct⟩ σ H1) : tIfS c t u ⟨nx, rt, bk, ct⟩ σ H := h
theorem r_par {i j : Nat} {ta : TA} (h : ta σ H fun vs H1 => ∃ v w, vs = [v, w] ∧ nx ((σ.set i (some v)).set j (some w)) H1) : tPar i j ta ⟨nx, rt, bk, ct⟩ σ H := h
theorem r_name {i : Nat} {R : L2.St → Hp → Prop} (h : R (σ.set i (some v)) H) : gName i v σ H R := h
theorem r_gTup {n : Nat} {ts : TGs} {a : Addr} {xs : List V} {R : L2.St → Hp → Prop} (h1 : SqT K H a xs) (h2 : xs.length = n) (h : ts xs σ H R) : gTup K n ts (.ref a) σ H R := ⟨a, xs, rfl, h1, h2, h⟩
theorem r_gCons {ts : TGs} {vs : List V} {R : L2.St → Hp → Prop} (h : g v σ H fun σ' H' => ts vs σ' H' R) : gCons g ts (v :: vs) σ H R := ⟨v, vs, rfl, h⟩
theorem r_gNil {R : L2.St → Hp → Prop} (h : R σ H) : gNil [] σ H R := ⟨rfl, h⟩
theorem r_gSub {to ti : TE} {ts : TSet} {R : L2.St → Hp → Prop} (h : to σ H fun o H1 => ti σ H1 fun i H2 => ts o i v H2 fun H3 => R σ H3) : gSub to ti ts v σ H R := h
theorem r_var {i : Nat} (h1 : σ[i]? = some (some v)) (h : Q v H) : tVar i σ H Q := ⟨v, h1, h⟩
theorem r_c (h : Q v H) : tC v σ H Q := h
theorem r_op {r : R2} (h : ta σ H fun x H1 => tb σ H1 fun y H2 => r x y H2 Q) : tOp r ta tb σ H Q := h
theorem r_un {r : V → Hp → VK → Prop} (h : ta σ H fun x H1 => r x H1 Q) : tUn r ta σ H Q := h
theorem r_I0 {f : Int → Int → V} {i j : Int} (h : Q (f i j) H) : rI0 f (.int i) (.int j) H Q := ⟨i, j, rfl, rfl, h⟩
theorem r_I {C : Int → Int → Prop} {f : Int → Int → V} {i j : Int} (hc : C i j) (h : Q (f i j) H) : rI C f (.int i) (.int j) H Q := ⟨i, j, rfl, rfl, hc, h⟩
theorem r_U {f : Int → V} {i : Int} (h : Q (f i) H) : rU f (.int i) H Q := ⟨i, rfl, h⟩
theorem r_ixT {p : Addr} {xs : List V} {i : Int} (h1 : SqT K H p xs) (h2 : atI xs i = some v) (h : Q v H) : rIxT K (.ref p) (.int i) H Q := ⟨p, xs, i, v, rfl, rfl, h1, h2, h⟩
theorem r_ixL {p : Addr} {xs : List V} {i : Int} (h1 : SqL K H p xs) (h2 : atI xs i = some v) (h : Q v H) : rIxL K (.ref p) (.int i) H Q := ⟨p, xs, i, v, rfl, rfl, h1, h2, h⟩
theorem r_cons {t : TA} {R : List V → Hp → Prop} (h : ta σ H fun x H1 => t σ H1 fun xs H2 => R (x :: xs) H2) : tCons ta t σ H R := h
theorem r_nil {R : List V → Hp → Prop} (h : R [] H) : tNil σ H R := h
theorem r_tup {t : TA} (h : t σ H fun xs H1 => xs.length ≤ sizeLine ∧ ∀ p, H1 p = none → Q (.ref p) (upd H1 p (.tup xs))) : tTup t σ H Q := h
theorem r_lst {t : TA} (h : t σ H fun xs H1 => xs.length ≤ sizeLine ∧ ∀ p, H1 p = none → Q (.ref p) (upd H1 p (.lst xs))) : tLst t σ H Q := h
theorem r_CB {r : List V → Hp → VK → Prop} {t : TA} (h : t σ H fun vs H1 => r vs H1 Q) : tCB r t σ H Q := h
theorem r_R {sp : Sp} {t : TA} (h : t σ H fun vs H1 => sp vs H1 Q E0) : tR sp t σ H Q := h
theorem r_gcd {a b : Int} (h : Q (.int ((Nat.gcd a.natAbs b.natAbs : Nat) : Int)) H) : rGcd [.int a, .int b] H Q := ⟨a, b, rfl, h⟩
theorem r_test {R : Bool → Hp → Prop} (h : te σ H fun x H' => ∃ k, x = .bl k ∧ R k H') : tTest te σ H R := h
theorem r_B {R : Bool → Hp → Prop} (h : te σ H fun x H' => ∃ k, x = .bl k ∧ R k H') : tB te σ H R := h
theorem r_bl {b : Bool} {R : Bool → Prop} (h : R b) : ∃ k, V.bl b = .bl k ∧ R k := ⟨b, rfl, h⟩
theorem r_if (h : c σ H fun b H1 => if b = true then ta σ H1 Q else tb σ H1 Q) : tIf c ta tb σ H Q := h
theorem r_and {d : TT} {R : Bool → Hp → Prop} (h : c σ H fun b H1 => if b = true then d σ H1 R else R false H1) : tAnd c d σ H R := h
theorem r_or {d : TT} {R : Bool → Hp → Prop} (h : c σ H fun b H1 => if b = true then R true H1 else d σ H1 R) : tOr c d σ H R := h
theorem r_not {R : Bool → Hp → Prop} (h : c σ H fun b H1 => R (!b) H1) : tNot c σ H R := h
theorem r_eq (hs : scal x y = true) (h : Q (.bl (decide (x = y))) H) : rEq x y H Q := ⟨hs, h⟩
theorem r_ne (hs : scal x y = true) (h : Q (.bl (!decide (x = y))) H) : rNe x y H Q := ⟨hs, h⟩
theorem r_dec {p : Prop} [Decidable p] {A B : Prop} (h1 : p → A) (h2 : ¬ p → B) : if decide p = true then A else B := by
  by_cases hp : p
  · rw [decide_eq_true hp, if_pos rfl]; exact h1 hp
  · rw [decide_eq_false hp, if_neg (by decide)]; exact h2 hp
theorem r_forT {i : Nat} {a : Addr} {xs : List V} (h1 : σ[i]? = some (some (.ref a))) (h2 : SqT K H a xs) (Pv : Nat → L2.St → Hp → Prop) (h0 : Pv 0 σ H) (hl : ∀ i σ H, i ≤ xs.length → Pv i σ H → SqT K H a xs)
    (hs : ∀ i x σ H, xs[i]? = some x → Pv i σ H → g x σ H fun σ2 H2 => t ⟨Pv (i + 1), rt, nx, Pv (i + 1)⟩ σ2 H2) (hd : ∀ σ H, Pv xs.length σ H → nx σ H) : tFor (iTup K (tVar i)) g t ⟨nx, rt, bk, ct⟩ σ H :=
  ⟨_, h1, a, rfl, ⟨xs, h2⟩, for_tup Pv h0 hl hs hd⟩
theorem r_forL {i : Nat} {a : Addr} {xs : List V} (h1 : σ[i]? = some (some (.ref a))) (h2 : SqL K H a xs) (Pv : Nat → L2.St → Hp → Prop) (h0 : Pv 0 σ H) (hl : ∀ i σ H, i ≤ xs.length → Pv i σ H → SqL K H a xs)
    (hs : ∀ i x σ H, xs[i]? = some x → Pv i σ H → g x σ H fun σ2 H2 => t ⟨Pv (i + 1), rt, nx, Pv (i + 1)⟩ σ2 H2) (hd : ∀ σ H, Pv xs.length σ H → nx σ H) : tFor (iList K (tVar i)) g t ⟨nx, rt, bk, ct⟩ σ H :=
  ⟨_, h1, a, rfl, ⟨xs, h2⟩, for_list Pv h0 hl hs hd⟩
theorem r_for {wi : TI} (h : wi σ H fun J H1 => ∃ W : Nat → Nat → L2.St → Hp → Prop, (∃ m, W 0 m σ H1) ∧ ∀ i m σ H, W i m σ H →
  (J.stop i H ∧ nx σ H) ∨ (J.go i H ∧ ∃ N : L2.St → Hp → Prop, (∀ σ' H', N σ' H' → ∃ m', m' < m ∧ W (i + 1) m' σ' H') ∧ ∀ x H', J.yld i H x H' → g x σ H' fun σ2 H2 => t ⟨N, rt, nx, N⟩ σ2 H2)) : tFor wi g t ⟨nx, rt, bk, ct⟩ σ H := h
theorem r_iList {tl : TE} {R : It → Hp → Prop} (h : tl σ H fun x H1 => ∃ a, x = .ref a ∧ (∃ xs, SqL K H1 a xs) ∧ R (Itl K a) H1) : iList K tl σ H R := h
theorem r_iTup {tl : TE} {R : It → Hp → Prop} (h : tl σ H fun x H1 => ∃ a, x = .ref a ∧ (∃ xs, SqT K H1 a xs) ∧ R (Itt K a) H1) : iTup K tl σ H R := h
theorem r_iRng1 {ta : TA} {R : It → Hp → Prop} (h : ta σ H fun vs H1 => ∃ j : Int, vs = [.int j] ∧ -(2 ^ 62) ≤ j ∧ j < 2 ^ 62 ∧ R (Itr 0 j.toNat) H1) : iRng1 ta σ H R := h
theorem r_loopL {a : Addr} {xs : List V} (Pv : Nat → L2.St → Hp → Prop) (h0 : Pv 0 σ H) (hl : ∀ i σ H, i ≤ xs.length → Pv i σ H → SqL K H a xs)
    (hs : ∀ i x σ H, xs[i]? = some x → Pv i σ H → g x σ H fun σ2 H2 => t ⟨Pv (i + 1), rt, nx, Pv (i + 1)⟩ σ2 H2) (hd : ∀ σ H, Pv xs.length σ H → nx σ H) :
    ∃ W : Nat → Nat → L2.St → Hp → Prop, (∃ m, W 0 m σ H) ∧ ∀ i m σ H, W i m σ H →
      ((Itl K a).stop i H ∧ nx σ H) ∨ ((Itl K a).go i H ∧ ∃ N : L2.St → Hp → Prop, (∀ σ' H', N σ' H' → ∃ m', m' < m ∧ W (i + 1) m' σ' H') ∧ ∀ x H', (Itl K a).yld i H x H' → g x σ H' fun σ2 H2 => t ⟨N, rt, nx, N⟩ σ2 H2) :=
  for_list (D := ⟨nx, rt, nx, nx⟩) Pv h0 hl hs hd
theorem r_loopT {a : Addr} {xs : List V} (Pv : Nat → L2.St → Hp → Prop) (h0 : Pv 0 σ H) (hl : ∀ i σ H, i ≤ xs.length → Pv i σ H → SqT K H a xs)
    (hs : ∀ i x σ H, xs[i]? = some x → Pv i σ H → g x σ H fun σ2 H2 => t ⟨Pv (i + 1), rt, nx, Pv (i + 1)⟩ σ2 H2) (hd : ∀ σ H, Pv xs.length σ H → nx σ H) :
    ∃ W : Nat → Nat → L2.St → Hp → Prop, (∃ m, W 0 m σ H) ∧ ∀ i m σ H, W i m σ H →
      ((Itt K a).stop i H ∧ nx σ H) ∨ ((Itt K a).go i H ∧ ∃ N : L2.St → Hp → Prop, (∀ σ' H', N σ' H' → ∃ m', m' < m ∧ W (i + 1) m' σ' H') ∧ ∀ x H', (Itt K a).yld i H x H' → g x σ H' fun σ2 H2 => t ⟨N, rt, nx, N⟩ σ2 H2) :=
  for_tup (D := ⟨nx, rt, nx, nx⟩) Pv h0 hl hs hd
theorem r_loopR {lo : Int} {n : Nat} (Pv : Nat → L2.St → Hp → Prop) (h0 : Pv 0 σ H)
    (hs : ∀ i σ H, i < n → Pv i σ H → g (.int (lo + i)) σ H fun σ2 H2 => t ⟨Pv (i + 1), rt, nx, Pv (i + 1)⟩ σ2 H2) (hd : ∀ σ H, Pv n σ H → nx σ H) :
    ∃ W : Nat → Nat → L2.St → Hp → Prop, (∃ m, W 0 m σ H) ∧ ∀ i m σ H, W i m σ H →
      ((Itr lo n).stop i H ∧ nx σ H) ∨ ((Itr lo n).go i H ∧ ∃ N : L2.St → Hp → Prop, (∀ σ' H', N σ' H' → ∃ m', m' < m ∧ W (i + 1) m' σ' H') ∧ ∀ x H', (Itr lo n).yld i H x H' → g x σ H' fun σ2 H2 => t ⟨N, rt, nx, N⟩ σ2 H2) :=
  for_range (D := ⟨nx, rt, nx, nx⟩) Pv h0 hs hd
theorem r_gUnl {n : Nat} {ts : TGs} {a : Addr} {xs : List V} {R : L2.St → Hp → Prop} (h1 : SqL K H a xs) (h2 : xs.length = n) (h : ts xs σ H R) : gUnl K n ts (.ref a) σ H R := ⟨a, xs, rfl, h1, h2, h⟩
theorem r_BM {T : String} {r : V → List V → Hp → VK → Prop} {to : TE} {ta : TA} (h : to σ H fun x H1 => tyV K T x H1 ∧ ta σ H1 fun xs H2 => r x xs H2 Q) : tBM K T r to ta σ H Q := h
theorem r_BM0 {T : String} {r : V → List V → Hp → VK → Prop} {to : TE} (h : to σ H fun x H1 => tyV K T x H1 ∧ r x [] H1 Q) : tBM0 K T r to σ H Q := h
theorem r_lc {wi : TI} {g : TG} {tt : TT} {te : TE} {vs : List Nat} (h : wi σ H fun J H1 => ∀ D, H1 D = none → ∃ W : Nat → Nat → Hp → Prop, (∃ m, W 0 m (upd H1 D (.lst []))) ∧ ∀ i m H, W i m H →
  (J.stop i H ∧ Q (.ref D) H) ∨ (J.go i H ∧ ∃ Nx : Hp → Prop, (∀ H', Nx H' → ∃ m', m' < m ∧ W (i + 1) m' H') ∧ ∀ x H', J.yld i H x H' → g x (wipe σ vs) H' fun σ2 H2 => wipe σ2 vs = wipe σ vs ∧ tt σ2 H2 fun b H3 =>
    if b = true then te σ2 H3 fun y H4 => ∃ acc, H4 D = some (.lst acc) ∧ acc.length < sizeLine ∧ Nx (upd H4 D (.lst (acc ++ [y]))) else Nx H3)) : tLc wi g tt te vs σ H Q := h
theorem r_yes {R : Bool → Hp → Prop} (h : R true H) : tYes σ H R := h
theorem r_tt {A B : Prop} (h : A) : if true = true then A else B := by rw [if_pos rfl]; exact h
theorem r_popAt {l : Addr} {xs : List V} {i : Int} {k : Nat} {y : V} (h1 : H l = some (.lst xs)) (h2 : i = (k : Int)) (h3 : xs[k]? = some y) (h4 : xs.length ≤ 4000) (h : Q y (upd H l (.lst (xs.eraseIdx k)))) : rPopAt (.ref l) [.int i] H Q := by
  have hk : k < xs.length := (List.getElem?_eq_some_iff.mp h3).1
  have e : ixN xs.length i = some k := by
    unfold ixN
    rw [if_pos (by omega), if_pos (by omega), h2, Int.toNat_natCast]
  exact ⟨l, xs, i, k, y, rfl, rfl, h1, by omega, by omega, (ixN_seq e).1, h3, h⟩
theorem r_lcR {lo : Int} {n : Nat} {g : TG} {tt : TT} {te : TE} {vs : List Nat} {D : Addr} {Qd : Hp → Prop} (Pv : Nat → Hp → Prop) (h0 : Pv 0 (upd H D (.lst [])))
    (hs : ∀ i H, i < n → Pv i H → g (.int (lo + i)) (wipe σ vs) H fun σ2 H2 => wipe σ2 vs = wipe σ vs ∧ tt σ2 H2 fun b H3 =>
      if b = true then te σ2 H3 fun y H4 => ∃ acc, H4 D = some (.lst acc) ∧ acc.length < sizeLine ∧ Pv (i + 1) (upd H4 D (.lst (acc ++ [y]))) else Pv (i + 1) H3) (hd : ∀ H, Pv n H → Qd H) :
    ∃ W : Nat → Nat → Hp → Prop, (∃ m, W 0 m (upd H D (.lst []))) ∧ ∀ i m H, W i m H →
      ((Itr lo n).stop i H ∧ Qd H) ∨ ((Itr lo n).go i H ∧ ∃ Nx : Hp → Prop, (∀ H', Nx H' → ∃ m', m' < m ∧ W (i + 1) m' H') ∧ ∀ x H', (Itr lo n).yld i H x H' → g x (wipe σ vs) H' fun σ2 H2 => wipe σ2 vs = wipe σ vs ∧ tt σ2 H2 fun b H3 =>
        if b = true then te σ2 H3 fun y H4 => ∃ acc, H4 D = some (.lst acc) ∧ acc.length < sizeLine ∧ Nx (upd H4 D (.lst (acc ++ [y]))) else Nx H3) :=
  lc_range (Qd := Qd) Pv h0 hs hd
theorem r_lcL {a : Addr} {xs : List V} {g : TG} {tt : TT} {te : TE} {vs : List Nat} {D : Addr} {Qd : Hp → Prop} (Pv : Nat → Hp → Prop) (h0 : Pv 0 (upd H D (.lst []))) (hl : ∀ i H, i ≤ xs.length → Pv i H → SqL K H a xs)
    (hs : ∀ i x H, xs[i]? = some x → Pv i H → g x (wipe σ vs) H fun σ2 H2 => wipe σ2 vs = wipe σ vs ∧ tt σ2 H2 fun b H3 =>
      if b = true then te σ2 H3 fun y H4 => ∃ acc, H4 D = some (.lst acc) ∧ acc.length < sizeLine ∧ Pv (i + 1) (upd H4 D (.lst (acc ++ [y]))) else Pv (i + 1) H3) (hd : ∀ H, Pv xs.length H → Qd H) :
    ∃ W : Nat → Nat → Hp → Prop, (∃ m, W 0 m (upd H D (.lst []))) ∧ ∀ i m H, W i m H →
      ((Itl K a).stop i H ∧ Qd H) ∨ ((Itl K a).go i H ∧ ∃ Nx : Hp → Prop, (∀ H', Nx H' → ∃ m', m' < m ∧ W (i + 1) m' H') ∧ ∀ x H', (Itl K a).yld i H x H' → g x (wipe σ vs) H' fun σ2 H2 => wipe σ2 vs = wipe σ vs ∧ tt σ2 H2 fun b H3 =>
        if b = true then te σ2 H3 fun y H4 => ∃ acc, H4 D = some (.lst acc) ∧ acc.length < sizeLine ∧ Nx (upd H4 D (.lst (acc ++ [y]))) else Nx H3) :=
  lc_list (Qd := Qd) Pv h0 hl hs hd
theorem r_true {c : Bool} {A B : Prop} (hc : c = true) (h : A) : if c = true then A else B := by rw [if_pos hc]; exact h
theorem r_false {c : Bool} {A B : Prop} (hc : c = false) (h : B) : if c = true then A else B := by rw [hc, if_neg (by decide)]; exact h
theorem len_is {n : Nat} {k : Int} (h : (n : Int) = k) : decide (V.int (n : Int) = V.int k) = true := decide_eq_true (by rw [h])
theorem len_not {n : Nat} {k : Int} (h : (n : Int) ≠ k) : decide (V.int (n : Int) = V.int k) = false := decide_eq_false fun z => h (V.int.inj z)
theorem r_lcZL {a b : Addr} {xs ys : List V} {g : TG} {tt : TT} {te : TE} {vs : List Nat} {D : Addr} {Qd : Hp → Prop} (hl : xs.length = ys.length) (Pv : Nat → Hp → Prop) (h0 : Pv 0 (upd H D (.lst []))) (hq : ∀ i H, Pv i H → SqL K H a xs ∧ SqL K H b ys)
    (hs : ∀ (i : Nat) (x y : V) (T : Addr) (H : Hp), xs[i]? = some x → ys[i]? = some y → Pv i H → H T = none → g (.ref T) (wipe σ vs) (upd H T (.tup [x, y])) fun σ2 H2 => wipe σ2 vs = wipe σ vs ∧ tt σ2 H2 fun b H3 =>
      if b = true then te σ2 H3 fun y H4 => ∃ acc, H4 D = some (.lst acc) ∧ acc.length < sizeLine ∧ Pv (i + 1) (upd H4 D (.lst (acc ++ [y]))) else Pv (i + 1) H3) (hd : ∀ H, Pv xs.length H → Qd H) :
    ∃ W : Nat → Nat → Hp → Prop, (∃ m, W 0 m (upd H D (.lst []))) ∧ ∀ i m H, W i m H →
      ((Itz K a b).stop i H ∧ Qd H) ∨ ((Itz K a b).go i H ∧ ∃ Nx : Hp → Prop, (∀ H', Nx H' → ∃ m', m' < m ∧ W (i + 1) m' H') ∧ ∀ x H', (Itz K a b).yld i H x H' → g x (wipe σ vs) H' fun σ2 H2 => wipe σ2 vs = wipe σ vs ∧ tt σ2 H2 fun b H3 =>
        if b = true then te σ2 H3 fun y H4 => ∃ acc, H4 D = some (.lst acc) ∧ acc.length < sizeLine ∧ Nx (upd H4 D (.lst (acc ++ [y]))) else Nx H3) := by
  refine ⟨fun i m H => m = xs.length - i ∧ i ≤ xs.length ∧ Pv i H, ⟨xs.length, rfl, Nat.zero_le _, h0⟩, ?_⟩
  rintro i m H ⟨rfl, hi, p⟩
  obtain ⟨qx, qy⟩ := hq i H p
  by_cases hlt : i < xs.length
  · have hx : xs[i]? = some xs[i] := List.getElem?_eq_getElem hlt
    have hlt2 : i < ys.length := by omega
    have hy : ys[i]? = some ys[i] := List.getElem?_eq_getElem hlt2
    refine .inr ⟨⟨xs, ys, _, _, qx, qy, hx, hy⟩, Pv (i + 1), fun H' p' => ⟨xs.length - (i + 1), by omega, rfl, hlt, p'⟩, fun v H' y => ?_⟩
    obtain ⟨T, x', y', rfl, hT, rfl, f1, f2⟩ := y
    exact hs i x' y' T _ (f1 xs qx) (f2 ys qy) p hT
  · have e : i = xs.length := by omega
    subst e
    exact .inl ⟨⟨xs, ys, qx, qy, .inl (Nat.le_refl _)⟩, hd H p⟩
theorem r_lcZT {a b : Addr} {xs ys : List V} {g : TG} {tt : TT} {te : TE} {vs : List Nat} {D : Addr} {Qd : Hp → Prop} (hl : xs.length = ys.length) (Pv : Nat → Hp → Prop) (h0 : Pv 0 (upd H D (.lst []))) (hq : ∀ i H, Pv i H → SqT K H a xs ∧ SqT K H b ys)
    (hs : ∀ (i : Nat) (x y : V) (T : Addr) (H : Hp), xs[i]? = some x → ys[i]? = some y → Pv i H → H T = none → g (.ref T) (wipe σ vs) (upd H T (.tup [x, y])) fun σ2 H2 => wipe σ2 vs = wipe σ vs ∧ tt σ2 H2 fun b H3 =>
      if b = true then te σ2 H3 fun y H4 => ∃ acc, H4 D = some (.lst acc) ∧ acc.length < sizeLine ∧ Pv (i + 1) (upd H4 D (.lst (acc ++ [y]))) else Pv (i + 1) H3) (hd : ∀ H, Pv xs.length H → Qd H) :
    ∃ W : Nat → Nat → Hp → Prop, (∃ m, W 0 m (upd H D (.lst []))) ∧ ∀ i m H, W i m H →
      ((RZ.ItzT K a b).stop i H ∧ Qd H) ∨ ((RZ.ItzT K a b).go i H ∧ ∃ Nx : Hp → Prop, (∀ H', Nx H' → ∃ m', m' < m ∧ W (i + 1) m' H') ∧ ∀ x H', (RZ.ItzT K a b).yld i H x H' → g x (wipe σ vs) H' fun σ2 H2 => wipe σ2 vs = wipe σ vs ∧ tt σ2 H2 fun b H3 =>
        if b = true then te σ2 H3 fun y H4 => ∃ acc, H4 D = some (.lst acc) ∧ acc.length < sizeLine ∧ Nx (upd H4 D (.lst (acc ++ [y]))) else Nx H3) := by
  refine ⟨fun i m H => m = xs.length - i ∧ i ≤ xs.length ∧ Pv i H, ⟨xs.length, rfl, Nat.zero_le _, h0⟩, ?_⟩
  rintro i m H ⟨rfl, hi, p⟩
  obtain ⟨qx, qy⟩ := hq i H p
  by_cases hlt : i < xs.length
  · have hx : xs[i]? = some xs[i] := List.getElem?_eq_getElem hlt
    have hlt2 : i < ys.length := by omega
    have hy : ys[i]? = some ys[i] := List.getElem?_eq_getElem hlt2
    refine .inr ⟨⟨xs, ys, _, _, qx, qy, hx, hy⟩, Pv (i + 1), fun H' p' => ⟨xs.length - (i + 1), by omega, rfl, hlt, p'⟩, fun v H' y => ?_⟩
    obtain ⟨T, x', y', rfl, hT, rfl, f1, f2⟩ := y
    exact hs i x' y' T _ (f1 xs qx) (f2 ys qy) p hT
  · have e : i = xs.length := by omega
    subst e
    exact .inl ⟨⟨xs, ys, qx, qy, .inl (Nat.le_refl _)⟩, hd H p⟩
theorem tyT {a : Addr} {xs : List V} (h : SqT K H a xs) : TyX K H (.ref a) (.type "tuple") := by
  rcases h with (h | ⟨o, h⟩) | ⟨o, its, n, h, c, _⟩
  · exact .base (.tup h)
  · exact .fTuple h
  · exact .kTuple h c
theorem tyL {a : Addr} {xs : List V} (h : SqL K H a xs) : TyX K H (.ref a) (.type "list") := by
  rcases h with (h | ⟨o, h⟩) | ⟨o, its, n, h, c, _⟩
  · exact .base (.lst h)
  · exact .base (.frz h)
  · exact .kList h c
theorem r_isi {T c : String} {b : Bool} (ht : TyX K H x (.type T)) (he : PySem.W.kitOne K (.type T) (.type c) = some b) (h : Q (.bl b) H) : rIsi K [x, .ty c] H Q := ⟨x, .ty c, .type T, .type c, b, rfl, .ty c, ht, he, h⟩
theorem r_isiT {T c1 c2 : String} {b : Bool} {p : Addr} (hp : H p = some (.tup [.ty c1, .ty c2])) (ht : TyX K H x (.type T)) (he : PySem.W.kitAny K (.type T) [.type c1, .type c2] = some b) (h : Q (.bl b) H) : rIsiT K [x, .ref p] H Q :=
  ⟨x, p, [.ty c1, .ty c2], .type T, [.type c1, .type c2], b, rfl, hp, .cons (.ty c1) (.cons (.ty c2) .nil), ht, he, h⟩
theorem r_andV (h : ta σ H fun x H1 => ∃ c, x = .bl c ∧ if c = true then tb σ H1 Q else Q (.bl false) H1) : tAndV ta tb σ H Q := h
theorem r_orV (h : ta σ H fun x H1 => ∃ c, x = .bl c ∧ if c = true then Q (.bl true) H1 else tb σ H1 Q) : tOrV ta tb σ H Q := h
theorem r_notV (h : ta σ H fun x H1 => ∃ c, x = .bl c ∧ Q (.bl (!c)) H1) : tNotV ta σ H Q := h
theorem r_all {a : Addr} {bs : List Bool} (h1 : SqL K H a (bs.map V.bl)) (h : Q (.bl (bs.all id)) H) : rAll K [.ref a] H Q := ⟨a, bs, rfl, h1, h⟩
theorem r_any {a : Addr} {bs : List Bool} (h1 : SqL K H a (bs.map V.bl)) (h : Q (.bl (bs.any id)) H) : rAny K [.ref a] H Q := ⟨a, bs, rfl, h1, h⟩
theorem r_iZip {ta : TA} {R : It → Hp → Prop} (h : ta σ H fun vs H1 => ∃ a b xs ys, vs = [.ref a, .ref b] ∧ ((SqL K H1 a xs ∧ SqL K H1 b ys ∧ R (Itz K a b) H1) ∨ (SqT K H1 a xs ∧ SqT K H1 b ys ∧ R (RZ.ItzT K a b) H1))) : RZ.iZipA K ta σ H R := h
theorem r_while (W : Nat → L2.St → Hp → Prop) (m : Nat) (h0 : W m σ H) (hs : ∀ m σ H, W m σ H → c σ H fun b H1 => if b = true then ∃ N : L2.St → Hp → Prop, (∀ σ' H', N σ' H' → ∃ m', m' < m ∧ W m' σ' H') ∧ t ⟨N, rt, nx, N⟩ σ H1 else nx σ H1) : tWhile c t ⟨nx, rt, bk, ct⟩ σ H :=
  ⟨W, ⟨m, h0⟩, hs⟩
theorem r_slL {te : TE} {tl th : TO} {r : V → Option Int → Option Int → Hp → VK → Prop} (h : te σ H fun x H1 => tl σ H1 fun l H2 => th σ H2 fun u H3 => r x l u H3 Q) : tSl r te tl th σ H Q := h
theorem r_noP {R : Option Int → Hp → Prop} (h : R none H) : tNoPart σ H R := h
theorem r_part {te : TE} {R : Option Int → Hp → Prop} (h : te σ H fun x H1 => ∃ i, x = .int i ∧ R (some i) H1) : tPart te σ H R := h
theorem r_exI {i : Int} {R : Int → Prop} (h : R i) : ∃ j, V.int i = .int j ∧ R j := ⟨i, rfl, h⟩
theorem r_slList {a : Addr} {xs : List V} {lo hi : Option Int} (h1 : SqL K H a xs) (h : ∀ p, H p = none → Q (.ref p) (upd H p (.lst (cutV xs lo hi)))) : rSlL K (.ref a) lo hi H Q := ⟨a, xs, rfl, h1, h⟩
theorem r_setL {p : Addr} {xs : List V} {k : Int} {j : Nat} {R : Hp → Prop} (h1 : H p = some (.lst xs)) (h2 : ixN xs.length k = some j) (h : R (upd H p (.lst (xs.set j v)))) : rSetL (.ref p) (.int k) v H R := ⟨p, xs, k, j, rfl, rfl, h1, h2, h⟩
theorem r_int {i : Int} {R : Int → Prop} {B : Prop} (h : R i) : (∃ j, [V.int i] = [.int j] ∧ R j) ∨ B := .inl ⟨i, rfl, h⟩
theorem r_len {p : Addr} {ys : List V} (h1 : SqL K H p ys ∨ SqT K H p ys) (h : Q (.int ys.length) H) : rLn K [.ref p] H Q := ⟨p, ys, rfl, h1, h⟩
theorem r_list {p : Addr} {ys : List V} (h1 : SqL K H p ys ∨ SqT K H p ys) (h : ∀ l, H l = none → Q (.ref l) (upd H l (.lst ys))) : rLs K [.ref p] H Q := ⟨p, ys, rfl, h1, h⟩
end
section
variable {X : Cx}
/-- a statement, then the rest, a word of one's own between them -/
def tMid (t u : TS) : TS := fun D σ H => ∃ M : L2.St → Hp → Prop, t ⟨M, D.rt, D.bk, D.ct⟩ σ H ∧ ∀ σ' H', M σ' H' → u D σ' H'
theorem pss_mid {st : Stmt} {rest : List Stmt} {t u : TS} (h1 : PS X st t) (h2 : PSs X rest u) : PSs X (st :: rest) (tMid t u) := by
  refine ⟨fun pins s σ H D I h => ?_⟩
  obtain ⟨M, hm, hu⟩ := h
  refine wpAny_execs_cons (thn (h1.run pins s σ H ⟨M, D.rt, D.bk, D.ct⟩ I hm) fun f s1 q => ?_)
  cases f with
  | next =>
    obtain ⟨σ', H', I', q⟩ := q
    exact h2.run pins s1 σ' H' D I' (hu σ' H' q)
  | ret v => exact q
  | brk => exact q
  | cont => exact q
theorem r_mid {t u : TS} {nx : L2.St → Hp → Prop} {rt : VK} {bk ct : L2.St → Hp → Prop} {σ : L2.St} {H : Hp} (M : L2.St → Hp → Prop) (h1 : t ⟨M, rt, bk, ct⟩ σ H) (h2 : ∀ σ' H', M σ' H' → u ⟨nx, rt, bk, ct⟩ σ' H') : tMid t u ⟨nx, rt, bk, ct⟩ σ H := ⟨M, h1, h2⟩
/-- a store into a list: the heap behind it by a name -/
theorem r_setB {K : PySem.W.Frag} {H : Hp} {b : Addr} {l : List V} {k : Int} {j : Nat} {v : V} {R : Hp → Prop} (h1 : H b = some (.lst l)) (h2 : ixN l.length k = some j) (l' : List V) (h3 : l.set j v = l')
    (h : ∀ H1, H1 b = some (.lst l') → Ext [b] H H1 → (∀ a xs, SqL K H a xs → xs ≠ l → SqL K H1 a xs) → R H1) : rSetL (.ref b) (.int k) v H R := by
  refine ⟨b, l, k, j, rfl, rfl, h1, h2, h _ ?_ (Ext.refl.at_ List.mem_cons_self) fun a xs q hd => ?_⟩
  · rw [h3]
    exact upd_same
  · rcases q with (q | ⟨u, q⟩) | q
    · exact .inl (.inl (by rw [upd_ne (fun z => hd (by rw [z, h1] at q; cases q; rfl))]; exact q))
    · exact .inl (.inr ⟨u, by rw [upd_ne (fun z => by rw [z, h1] at q; cases q)]; exact q⟩)
    · exact .inr q
end
section
variable {P : Program} {w : World} {K : PySem.W.Frag} {mg : Str → Option Value} {base : Heap}
/-- def f(a, .., *v) -/
theorem fn_star {x pv : Str} {params : Arguments} {body : List Stmt} {scope : Scope} {f : Addr} {fd : FuncData} {N ps : List Str} {k : Nat} {sp sp' : Sp}
    (F : FunD K x x params body scope [] [] f fd) (hm : mg x = some (.ref f)) (S : FnScope N (ps ++ [pv]) scope)
    (hb : ∀ (kV doc pm : Value) (an : Option Addr) (cdv ct : Value) (us rest : List Value), us.length = ps.length → bindArgs (PySem.W.fnOf x x params body scope .none kV doc pm an cdv ct) ⟨us ++ rest, []⟩ = (newTuple rest >>= fun t => pure (ps.zip us ++ [(pv, t)])))
    (hbody : ∀ (cdv : Value) (A : Around) (outer : List Env) (s : Shared) (H : Hp) (vs : List V) (Q : VK) (E : XK), Room k (A.deeper (envOfC x scope s.heap.objs.size f cdv)) → sp vs H Q E →
      ∃ t, PSs (cxOf CX0 P w K mg base N x scope f cdv A outer s H E).nox body t ∧ t ⟨fun _ H' => Q .non H', Q, fun _ _ => False, fun _ _ => False⟩ (start N vs) H)
    (himp : ∀ vs H Q E, sp' vs H Q E → ∃ ws rest, vs = ws ++ rest ∧ ws.length = ps.length ∧ rest.length ≤ sizeLine ∧ ∀ p, H p = none → sp (ws ++ [V.ref p]) (upd H p (.tup rest)) Q E) : Fn P w K mg base (k + 1) x sp' := by
  have kp := F.kp
  obtain ⟨oc, od, dV, kV, doc, pm, an, cdv, ct, osl, rfl, lk, hcd, hD, _⟩ := F.ex
  rcases hD with ⟨_, rfl⟩ | ⟨e, _⟩
  · have R := StX.fn_star (P := P) (w := w) (mg := mg) (base := base) (sp := sp) lk hcd S StX.cxUp_none (hb kV doc pm an cdv ct) (fun A outer s H vs Q E hr h => let ⟨t, h1, h2⟩ := hbody cdv A outer s H vs Q E hr h; ⟨t, h1.nox, h2⟩)
    exact ⟨f, hm, kp, R.imp himp⟩
  · exact absurd rfl e
end
end Yk

set_option maxHeartbeats 1000000
/-! Calls by name: two parameters, told in the other order. -/
namespace Yk
open PySem PySem.Spec PyProof.Rows L2
def sw2 {α : Type} (us ws : List α) : List α := match us, ws with
  | [], [a, b] => [b, a]
  | _, _ => []
theorem sw2_rel {vs : List V} {us : List Value} {zs : List V} {ws : List Value} (h1 : Vals vs us) (h2 : Vals zs ws) : Vals (sw2 vs zs) (sw2 us ws) := by
  cases h1 with
  | cons a b => exact .nil
  | nil =>
    cases h2 with
    | nil => exact .nil
    | cons a h2 =>
      cases h2 with
      | nil => exact .nil
      | cons b h2 =>
        cases h2 with
        | nil => exact .cons b (.cons a .nil)
        | cons c h2 => exact .nil
section
variable (P : Program) (w : World) (K : PySem.W.Frag) (mg : Str → Option Value) (base : Heap)
structure FnS (k : Nat) (x : Str) (ks : List Str) (sp : Sp) : Prop where
  run : ∃ f fd ps, mg x = some (.ref f) ∧ PySem.W.keepIn K (.ref f) = true ∧ FnOk P w K mg base CX0 k f fd ps sp ∧ KBinds K fd ps ks sw2 sw2
end
section
variable {P : Program} {w : World} {K : PySem.W.Frag} {mg : Str → Option Value} {base : Heap} {f : Addr} {fd : FuncData}
theorem ok_def {x : Str} {params : Arguments} {body : List Stmt} {scope : Scope} {N ps : List Str} {k : Nat} {sp : Sp}
    (F : FunD K x x params body scope [] [] f fd) (S : FnScope N ps scope) (len : ∀ vs H Q E, sp vs H Q E → vs.length = ps.length)
    (hbody : ∀ (cdv : Value) (A : Around) (outer : List Env) (s : Shared) (H : Hp) (vs : List V) (Q : VK) (E : XK), Room k (A.deeper (envOfC x scope s.heap.objs.size f cdv)) → sp vs H Q E →
      ∃ t, PSs (cxOf CX0 P w K mg base N x scope f cdv A outer s H E).nox body t ∧ t ⟨fun _ H' => Q .non H', Q, fun _ _ => False, fun _ _ => False⟩ (start N vs) H) : FnOk P w K mg base CX0 (k + 1) f fd ps sp :=
  F.ok S len fun cdv A outer s H vs Q E hr h => by
    obtain ⟨t, h1, h2⟩ := hbody cdv A outer s H vs Q E hr h
    exact ⟨t, h1.nox, h2⟩
theorem fn_none {x : Str} {params : Arguments} {body : List Stmt} {scope : Scope} (F : FunD K x x params body scope [] [] f fd) {k : Nat} (hm : mg x = some (.ref f)) : Fn P w K mg base k x (fun _ _ _ _ => False) :=
  ⟨f, hm, F.kp, fun _ _ _ _ _ _ _ _ _ _ _ h => h.elim⟩
theorem fn_of_ok {x : Str} {params : Arguments} {body : List Stmt} {scope : Scope} {ps : List Str} {k : Nat} {sp : Sp}
    (F : FunD K x x params body scope [] [] f fd) (hm : mg x = some (.ref f)) (G : FnOk P w K mg base CX0 k f fd ps sp)
    (hb : ∀ (kV doc pm : Value) (an : Option Addr) (cdv ct : Value) (us : List Value), us.length = ps.length → bindArgs (PySem.W.fnOf x x params body scope .none kV doc pm an cdv ct) ⟨us, []⟩ = pure (ps.zip us)) : Fn P w K mg base k x sp := by
  have b := F.bindsN hb
  have R := G.raw b .nil
  refine ⟨f, hm, F.kp, R.imp fun vs H Q E h => ?_⟩
  rw [List.append_nil]
  exact h
theorem fs_of_ok {x p1 p2 : Str} {params : Arguments} {body : List Stmt} {scope : Scope} {k : Nat} {sp : Sp}
    (F : FunD K x x params body scope [] [] f fd) (hm : mg x = some (.ref f)) (G : FnOk P w K mg base CX0 k f fd [p1, p2] sp)
    (hb : ∀ (kV doc pm : Value) (an : Option Addr) (cdv ct : Value) (a b : Value), bindArgs (PySem.W.fnOf x x params body scope .none kV doc pm an cdv ct) ⟨[], [(p2, a), (p1, b)]⟩ = pure [(p1, b), (p2, a)]) : FnS P w K mg base k x [p2, p1] sp := by
  refine ⟨f, fd, [p1, p2], hm, F.kp, G, ⟨fun s us ws hK hl => ?_, sw2_rel⟩⟩
  obtain ⟨oc, od, dV, kV, doc, pm, an, cdv, ct, osl, rfl, lk, hcd, hD, _⟩ := F.ex
  rcases hD with ⟨_, rfl⟩ | ⟨e, _⟩
  · match us, ws, hl with
    | [], [a, b], _ => exact .of_eq (hb kV doc pm an cdv ct a b)
    | [], [], h => cases h
    | [], [_], h => cases h
    | [], _ :: _ :: _ :: _, h => cases h
    | _ :: _, _, h => cases h
  · exact absurd rfl e
end
section
variable {X : Cx} {k : Nat} {sp : Sp} {x : Str} {p pos : Pos} {ks : List Str} {kws : List Keyword} {tk : TA}
def tRS (sp : Sp) (tk : TA) : TE := fun σ H Q => tk σ H fun zs H1 => ∃ a b, zs = [a, b] ∧ sp [b, a] H1 Q E0
theorem r_RS {σ : L2.St} {H : Hp} {Q : VK} (h : tk σ H fun zs H1 => ∃ a b, zs = [a, b] ∧ sp [b, a] H1 Q E0) : tRS sp tk σ H Q := h
theorem pe_fnS (F : FnS X.prog X.w X.K X.mg X.base k x ks sp) (hr : Room k X.A) (hkw : PK X kws tk) (hg : Gl X x := by rfl) (hdb : (x == ("__debug__" : Str)) = false := by decide)
    (hx : Passes CX0 X E0 := by exact pass0)
    (hall : (backToKw pos (keywordEach kws X.env)).all (·.1.isSome) = true := by rfl) (hks : (backToKw pos (keywordEach kws X.env)).filterMap (·.1) = ks := by rfl)
    (hpl : ((backTo pos (starEach [] X.env)).any (·.1) || (backToKw pos (keywordEach kws X.env)).any (·.1.isNone)) = false := by rfl) :
    PE X (.Call (.Name x p) [] kws pos) (tRS sp tk) := by
  obtain ⟨f, fd, ps, hm, hk, F, hb⟩ := F.run
  refine ⟨fun pins s σ H Q I h => ?_⟩
  refine wpAny_Call_Name_kw (ld_glob I hg hm ?_ hdb)
  refine PySem.W.callWith_KW0 (h₀ := X.base) I.ok.mod.kin hk hall ?_ hpl
  refine thn (hkw.run pos pins s σ H _ I h) fun ws s2 ⟨zs, H2, I2, rz, a, b, ez, q2⟩ => ⟨I2.kIn, ?_⟩
  rw [hks]
  subst ez
  exact run_fnk (us := []) (vs := []) (g := sw2) (gV := sw2) F hr hb hx I2 .nil rz q2
end

/-! stars, and what is a list or a tuple -/
section
variable {X : Cx} {k : Nat} {sp : Sp} {x : Str} {p sp_ pos : Pos} {e : Expr} {es : List Expr} {te : TE} {t : TA}
def tR1 (K : PySem.W.Frag) (sp : Sp) (te : TE) : TE := fun σ H Q => te σ H fun y H1 => ∃ a xs, y = V.ref a ∧ (SqT K H1 a xs ∨ SqL K H1 a xs) ∧ sp xs H1 Q E0
theorem r_R1 {K : PySem.W.Frag} {σ : L2.St} {H : Hp} {Q : VK} (h : te σ H fun y H1 => ∃ a xs, y = V.ref a ∧ (SqT K H1 a xs ∨ SqL K H1 a xs) ∧ sp xs H1 Q E0) : tR1 K sp te σ H Q := h
theorem r_star {K : PySem.W.Frag} {σ : L2.St} {H : Hp} {R : List V → Hp → Prop} (h : te σ H fun x H1 => ∃ p xs, x = V.ref p ∧ (SqT K H1 p xs ∨ SqL K H1 p xs) ∧ t σ H1 fun ys H2 => R (xs ++ ys) H2) : StX.tStar K te t σ H R := h
theorem pe_fnS1 (F : Fn X.prog X.w X.K X.mg X.base k x sp) (hr : Room k X.A) (he : PE X e te) (hg : Gl X x := by rfl) (hdb : (x == ("__debug__" : Str)) = false := by decide) (hx : Passes CX0 X E0 := by exact pass0)
    (hst : starEach [.Starred e sp_] X.env = [(true, eval e X.env)] := by rfl) : PE X (.Call (.Name x p) [.Starred e sp_] [] pos) (tR1 X.K sp te) := by
  obtain ⟨f, hm, hk, F⟩ := F.run
  exact StX.pe_callS1 F hr hk hg hm hx he hdb hst
theorem pe_fnS2 (F : Fn X.prog X.w X.K X.mg X.base k x sp) (hr : Room k X.A) (ha : PA X (e :: es) t) (hg : Gl X x := by rfl) (hdb : (x == ("__debug__" : Str)) = false := by decide) (hx : Passes CX0 X E0 := by exact pass0)
    (he : starEach (e :: es) X.env = (false, eval e X.env) :: starEach es X.env := by rfl) (hst : (backTo pos (starEach es X.env)).any (·.1) = true := by rfl) : PE X (.Call (.Name x p) (e :: es) [] pos) (tR sp t) := by
  obtain ⟨f, hm, hk, F⟩ := F.run
  exact StX.pe_callS2 F hr hk hg hm hx ha hdb he hst
def iSeq (K : PySem.W.Frag) (tl : TE) : TI := fun σ H R => iList K tl σ H R ∨ iTup K tl σ H R
theorem pi_seq {tg l : Expr} {tl : TE} (hl : PE X l tl) : PI X tg l (iSeq X.K tl) :=
  ⟨fun pins s σ H R I h => h.elim (fun h => (pi_list hl).run pins s σ H R I h) (fun h => (pi_tup hl).run pins s σ H R I h)⟩
end
section
variable {K : PySem.W.Frag} {nx : L2.St → Hp → Prop} {rt : VK} {bk ct : L2.St → Hp → Prop} {σ : L2.St} {H : Hp} {Q : VK} {g : TG} {tt : TT} {te : TE} {t : TS} {vs : List Nat}
/-- carried on: what is a list or a tuple at a -/
def Kp (K : PySem.W.Frag) (a : Addr) (xs : List V) (H H2 : Hp) : Prop := (SqL K H a xs → SqL K H2 a xs) ∧ (SqT K H a xs → SqT K H2 a xs)
theorem kp0 {a : Addr} {xs : List V} {H2 : Hp} (e : Ext [] H H2) : Kp K a xs H H2 := ⟨lst0 e, tup0 e⟩
theorem Kp.trans {a : Addr} {xs : List V} {H1 H2 : Hp} (h : Kp K a xs H H1) (g : Kp K a xs H1 H2) : Kp K a xs H H2 := ⟨fun z => g.1 (h.1 z), fun z => g.2 (h.2 z)⟩
abbrev SqQ (K : PySem.W.Frag) (H : Hp) (a : Addr) (xs : List V) : Prop := SqL K H a xs ∨ SqT K H a xs
theorem Kp.q {a : Addr} {xs : List V} {H2 : Hp} (h : Kp K a xs H H2) (z : SqQ K H a xs) : SqQ K H2 a xs := z.elim (fun z => .inl (h.1 z)) fun z => .inr (h.2 z)
theorem sqq0 {a : Addr} {xs : List V} {H2 : Hp} (e : Ext [] H H2) (h : SqQ K H a xs) : SqQ K H2 a xs := (kp0 e).q h
theorem r_lcQ {i : Nat} {a : Addr} {xs : List V} {Qd : Addr → Hp → Prop} {H0 : Hp} (h1 : σ[i]? = some (some (.ref a))) (h2 : SqQ K H0 a xs) (hk : Kp K a xs H0 H) (h : ∀ D, H D = none → ∃ Pv : Nat → Hp → Prop, Pv 0 (upd H D (.lst [])) ∧ (∀ j H2, Pv j H2 → Kp K a xs H0 H2) ∧
    (∀ j x H, xs[j]? = some x → Pv j H → g x (wipe σ vs) H fun σ2 H2 => wipe σ2 vs = wipe σ vs ∧ tt σ2 H2 fun b H3 =>
      if b = true then te σ2 H3 fun y H4 => ∃ acc, H4 D = some (.lst acc) ∧ acc.length < sizeLine ∧ Pv (j + 1) (upd H4 D (.lst (acc ++ [y]))) else Pv (j + 1) H3) ∧ ∀ H, Pv xs.length H → Qd D H) :
    iSeq K (tVar i) σ H fun J H1 => ∀ D, H1 D = none → ∃ W : Nat → Nat → Hp → Prop, (∃ m, W 0 m (upd H1 D (.lst []))) ∧ ∀ i m H, W i m H →
      (J.stop i H ∧ Qd D H) ∨ (J.go i H ∧ ∃ Nx : Hp → Prop, (∀ H', Nx H' → ∃ m', m' < m ∧ W (i + 1) m' H') ∧ ∀ x H', J.yld i H x H' → g x (wipe σ vs) H' fun σ2 H2 => wipe σ2 vs = wipe σ vs ∧ tt σ2 H2 fun b H3 =>
        if b = true then te σ2 H3 fun y H4 => ∃ acc, H4 D = some (.lst acc) ∧ acc.length < sizeLine ∧ Nx (upd H4 D (.lst (acc ++ [y]))) else Nx H3) := by
  rcases h2 with h2 | h2
  · refine Or.inl ⟨_, h1, a, rfl, ⟨xs, hk.1 h2⟩, fun D hD => ?_⟩
    obtain ⟨Pv, p0, pk, ps, pd⟩ := h D hD
    exact lc_list (Qd := Qd D) Pv p0 (fun j H2 _ p => (pk j H2 p).1 h2) ps pd
  · refine Or.inr ⟨_, h1, a, rfl, ⟨xs, hk.2 h2⟩, fun D hD => ?_⟩
    obtain ⟨Pv, p0, pk, ps, pd⟩ := h D hD
    exact lc_tup (Qd := Qd D) Pv p0 (fun j H2 _ p => (pk j H2 p).2 h2) ps pd
theorem r_forQ {i : Nat} {a : Addr} {xs : List V} {H0 : Hp} (h1 : σ[i]? = some (some (.ref a))) (h2 : SqQ K H0 a xs) (hk : Kp K a xs H0 H) (Pv : Nat → L2.St → Hp → Prop) (h0 : Pv 0 σ H) (hl : ∀ i σ H2, i ≤ xs.length → Pv i σ H2 → Kp K a xs H0 H2)
    (hs : ∀ i x σ H, xs[i]? = some x → Pv i σ H → g x σ H fun σ2 H2 => t ⟨Pv (i + 1), rt, nx, Pv (i + 1)⟩ σ2 H2) (hd : ∀ σ H, Pv xs.length σ H → nx σ H) : tFor (iSeq K (tVar i)) g t ⟨nx, rt, bk, ct⟩ σ H := by
  rcases h2 with h2 | h2
  · exact Or.inl ⟨_, h1, a, rfl, ⟨xs, hk.1 h2⟩, for_list (D := ⟨nx, rt, nx, nx⟩) Pv h0 (fun i σ H2 z p => (hl i σ H2 z p).1 h2) hs hd⟩
  · exact Or.inr ⟨_, h1, a, rfl, ⟨xs, hk.2 h2⟩, for_tup (D := ⟨nx, rt, nx, nx⟩) Pv h0 (fun i σ H2 z p => (hl i σ H2 z p).2 h2) hs hd⟩
end
/-! rows that go together -/
section
variable {α β : Type}
def Rel (R : V → α → Prop) (xs : List V) (rs : List α) : Prop := xs.length = rs.length ∧ ∀ (i : Nat) (v : V) (r : α), xs[i]? = some v → rs[i]? = some r → R v r
variable {R R' : V → α → Prop} {xs ys : List V} {rs ts : List α}
theorem Rel.nil : Rel R [] [] := ⟨rfl, fun i v q h => by simp at h⟩
theorem Rel.cons {v : V} {r : α} (h : R v r) (g : Rel R xs rs) : Rel R (v :: xs) (r :: rs) := by
  refine ⟨by simp [g.1], fun i w u a b => ?_⟩
  cases i with
  | zero =>
    simp at a b
    subst a b
    exact h
  | succ i =>
    simp at a b
    exact g.2 i w u a b
theorem Rel.imp (h : Rel R xs rs) (f : ∀ v r, R v r → R' v r) : Rel R' xs rs := ⟨h.1, fun i v r a b => f v r (h.2 i v r a b)⟩
theorem Rel.impM (h : Rel R xs rs) (f : ∀ v r, r ∈ rs → R v r → R' v r) : Rel R' xs rs := ⟨h.1, fun i v r a b => f v r (List.mem_of_getElem? b) (h.2 i v r a b)⟩
theorem Rel.at_ (h : Rel R xs rs) {i : Nat} {v : V} (hv : xs[i]? = some v) : ∃ r, rs[i]? = some r ∧ R v r := by
  have hi : i < rs.length := by rw [← h.1]; exact (List.getElem?_eq_some_iff.mp hv).1
  exact ⟨rs[i], List.getElem?_eq_getElem hi, h.2 i v _ hv (List.getElem?_eq_getElem hi)⟩
theorem Rel.app (h : Rel R xs rs) (g : Rel R ys ts) : Rel R (xs ++ ys) (rs ++ ts) := by
  refine ⟨by rw [List.length_append, List.length_append, h.1, g.1], fun j v q a b => ?_⟩
  by_cases hj : j < xs.length
  · rw [List.getElem?_append_left hj] at a
    rw [List.getElem?_append_left (by rw [← h.1]; exact hj)] at b
    exact h.2 j v q a b
  · rw [List.getElem?_append_right (by omega)] at a
    rw [List.getElem?_append_right (by rw [← h.1]; omega), ← h.1] at b
    exact g.2 _ v q a b
theorem Rel.hd {v : V} {r : α} (h : Rel R (v :: xs) (r :: rs)) : R v r := h.2 0 v r rfl rfl
theorem Rel.tl {v : V} {r : α} (h : Rel R (v :: xs) (r :: rs)) : Rel R xs rs := ⟨by simpa using h.1, fun i w u a b => h.2 (i + 1) w u (by simpa using a) (by simpa using b)⟩
theorem Rel.cases {v : V} (h : Rel R (v :: xs) rs) : ∃ r t, rs = r :: t ∧ R v r ∧ Rel R xs t := by
  cases rs with
  | nil => exact absurd h.1 (by simp)
  | cons r t => exact ⟨r, t, rfl, h.hd, h.tl⟩
theorem Rel.take (h : Rel R xs rs) (n : Nat) : Rel R (xs.take n) (rs.take n) := by
  refine ⟨by rw [List.length_take, List.length_take, h.1], fun j v q a b => ?_⟩
  rw [List.getElem?_take] at a b
  split at a
  · rename_i hj
    rw [if_pos hj] at b
    exact h.2 j v q a b
  · cases a
theorem Rel.drop (h : Rel R xs rs) (n : Nat) : Rel R (xs.drop n) (rs.drop n) := by
  refine ⟨by rw [List.length_drop, List.length_drop, h.1], fun j v q a b => ?_⟩
  rw [List.getElem?_drop] at a b
  exact h.2 _ v q a b
theorem Rel.perm (p : ys.Perm xs) : ∀ {rs : List α}, Rel R xs rs → ∃ ts, Rel R ys ts ∧ ts.Perm rs := by
  induction p with
  | nil => exact fun {rs} h => ⟨rs, h, List.Perm.refl _⟩
  | cons x _ ih =>
    intro rs h
    obtain ⟨r, t, rfl, a, b⟩ := h.cases
    obtain ⟨ts, c, d⟩ := ih b
    exact ⟨r :: ts, .cons a c, d.cons r⟩
  | swap x y l =>
    intro rs h
    obtain ⟨r1, t, rfl, a, b⟩ := h.cases
    obtain ⟨r2, t, rfl, c, d⟩ := b.cases
    exact ⟨r2 :: r1 :: t, .cons c (.cons a d), List.Perm.swap r1 r2 t⟩
  | trans _ _ ih1 ih2 =>
    intro rs h
    obtain ⟨ts, a, b⟩ := ih2 h
    obtain ⟨us, c, d⟩ := ih1 a
    exact ⟨us, c, d.trans b⟩
theorem Rel.snoc {v : V} {r : α} (h : Rel R xs rs) (g : R v r) : Rel R (xs ++ [v]) (rs ++ [r]) := h.app (.cons g .nil)
end
/-! steps -/
section
variable {K : PySem.W.Frag} {nx : L2.St → Hp → Prop} {rt : VK} {bk ct : L2.St → Hp → Prop} {σ : L2.St} {H : Hp} {Q : VK} {te : TE} {x y : V}
theorem r_app {l : Addr} {xs : List V} (h1 : H l = some (.lst xs)) (h2 : xs.length ≤ 4000) (h : Q .non (upd H l (.lst (xs ++ [y])))) : rAppend (.ref l) [y] H Q := ⟨l, xs, y, rfl, rfl, h1, Nat.lt_of_le_of_lt h2 (by decide), h⟩
theorem ty_lst {l : Addr} {xs : List V} (h : H l = some (.lst xs)) : tyV K "list" (.ref l) H := .inl ⟨rfl, xs, .inl (.inl h)⟩
theorem r_aug {i : Nat} {ti : TIp} (h1 : σ[i]? = some (some x)) (h : te σ H fun y H1 => ti x y H1 fun z H2 => nx (σ.set i (some z)) H2) : tAug i te ti ⟨nx, rt, bk, ct⟩ σ H := ⟨x, h1, h⟩
theorem r_ipI {f : Int → Int → Int} {i j : Int} {R : V → Hp → Prop} (h : R (.int (f i j)) H) : ipI f (.int i) (.int j) H R := ⟨i, j, rfl, rfl, h⟩
theorem cut_drop {xs : List V} {n : Nat} (h : n ≤ xs.length) : cutV xs (some (n : Int)) none = xs.drop n := by
  have e : HT.sIx xs.length 0 (some (n : Int)) = n := by rw [HT.sIx_nat]; exact Nat.min_eq_left h
  have e2 : HT.sIx xs.length xs.length none = xs.length := rfl
  unfold cutV
  rw [e, e2]
  exact List.take_of_length_le (by simp)
theorem cut_take {xs : List V} {n : Nat} (h : n ≤ xs.length) : cutV xs none (some (n : Int)) = xs.take n := by
  have e : HT.sIx xs.length xs.length (some (n : Int)) = n := by rw [HT.sIx_nat]; exact Nat.min_eq_left h
  have e2 : HT.sIx xs.length 0 none = 0 := rfl
  unfold cutV
  rw [e, e2]
  simp
end
section
theorem ixN_at {n j : Nat} {i : Int} (h : i = (j : Int)) (hj : j < n) : ixN n i = some j := by
  unfold ixN
  rw [if_pos (by omega), if_pos (by omega), h, Int.toNat_natCast]
theorem at0 {v : V} {xs : List V} : atI (v :: xs) 0 = some v := atI_nat (j := 0) rfl
theorem at1 {v w : V} {xs : List V} : atI (v :: w :: xs) 1 = some w := atI_nat (j := 1) rfl
theorem at_n {v : V} {xs : List V} {n : Nat} {i : Int} (hi : i = (n : Int)) (h : xs[n]? = some v) : atI xs i = some v := by rw [hi]; exact atI_nat h
end
theorem r_ndec {p : Prop} [Decidable p] {A B : Prop} (h1 : ¬ p → A) (h2 : p → B) : if (!decide p) = true then A else B := by
  by_cases hp : p
  · rw [decide_eq_true hp, if_neg (by decide)]; exact h2 hp
  · rw [decide_eq_false hp, if_pos (by decide)]; exact h1 hp
def rTs (K : PySem.W.Frag) : List V → Hp → VK → Prop := fun xs H Q => ∃ p ys, xs = [.ref p] ∧ ((SqL K H p ys ∧ ∀ l, H l = none → Q (.ref l) (upd H l (.tup ys))) ∨ (SqT K H p ys ∧ Q (.ref p) H))
theorem cr_tuple {X : Cx} : CallR X (.type "tuple") (rTs X.K) := call_tuple_of
theorem r_tupleL {K : PySem.W.Frag} {H : Hp} {Q : VK} {p : Addr} {ys : List V} (h : SqL K H p ys) (k : ∀ l, H l = none → Q (.ref l) (upd H l (.tup ys))) : rTs K [.ref p] H Q := ⟨p, ys, rfl, .inl ⟨h, k⟩⟩
end Yk

set_option maxHeartbeats 1000000
/-! Calls by place and by name, in any order; data that stands clear of some addresses. -/
namespace Yk
open PySem PySem.Spec PyProof.Rows L2
/-- the parameters' values: the i-th is the idx[i]-th of all that are passed -/
def arr {α : Type} (m n : Nat) (idx : List Nat) (us ws : List α) : List α := if us.length = m ∧ ws.length = n then idx.filterMap fun i => (us ++ ws)[i]? else []
theorem Vals.app {vs zs : List V} {us ws : List Value} (h : Vals vs us) (g : Vals zs ws) : Vals (vs ++ zs) (us ++ ws) := by
  induction h with
  | nil => exact g
  | cons a _ ih => exact .cons a ih
theorem Vals.get {vs : List V} {us : List Value} (h : Vals vs us) : ∀ i : Nat, (vs[i]? = none ∧ us[i]? = none) ∨ ∃ v u, vs[i]? = some v ∧ us[i]? = some u ∧ RelV v u := by
  induction h with
  | nil => intro i; exact .inl ⟨rfl, rfl⟩
  | cons a _ ih =>
    intro i
    cases i with
    | zero => exact .inr ⟨_, _, rfl, rfl, a⟩
    | succ i => exact ih i
theorem Vals.pick {vs : List V} {us : List Value} (h : Vals vs us) : ∀ idx : List Nat, Vals (idx.filterMap fun i => vs[i]?) (idx.filterMap fun i => us[i]?)
  | [] => .nil
  | i :: idx => by
    rcases Vals.get h i with ⟨a, b⟩ | ⟨v, u, a, b, r⟩
    · rw [List.filterMap_cons_none a, List.filterMap_cons_none b]
      exact Vals.pick h idx
    · rw [List.filterMap_cons_some a, List.filterMap_cons_some b]
      exact .cons r (Vals.pick h idx)
theorem arr_rel {m n : Nat} {idx : List Nat} {vs : List V} {us : List Value} {zs : List V} {ws : List Value} (h1 : Vals vs us) (h2 : Vals zs ws) : Vals (arr m n idx vs zs) (arr m n idx us ws) := by
  unfold arr
  rw [h1.length, h2.length]
  split
  · exact Vals.pick (Vals.app h1 h2) idx
  · exact .nil
section
variable (P : Program) (w : World) (K : PySem.W.Frag) (mg : Str → Option Value) (base : Heap)
structure FnX (k : Nat) (x : Str) (m : Nat) (ks : List Str) (idx : List Nat) (sp : Sp) : Prop where
  run : ∃ f fd ps, mg x = some (.ref f) ∧ PySem.W.keepIn K (.ref f) = true ∧ FnOk P w K mg base CX0 k f fd ps sp ∧ KBinds K fd ps ks (arr m ks.length idx) (arr m ks.length idx)
end
section
variable {P : Program} {w : World} {K : PySem.W.Frag} {mg : Str → Option Value} {base : Heap} {f : Addr} {fd : FuncData}
theorem fx_of_ok {x : Str} {params : Arguments} {body : List Stmt} {scope : Scope} {ps : List Str} {k : Nat} {sp : Sp} (m : Nat) (ks : List Str) (idx : List Nat)
    (F : FunD K x x params body scope [] [] f fd) (hm : mg x = some (.ref f)) (G : FnOk P w K mg base CX0 k f fd ps sp) (h0 : 0 < ps.length)
    (hb : ∀ (kV doc pm : Value) (an : Option Addr) (cdv ct : Value) (us ws : List Value), us.length = m → ws.length = ks.length → bindArgs (PySem.W.fnOf x x params body scope .none kV doc pm an cdv ct) ⟨us, ks.zip ws⟩ = pure (ps.zip (arr m ks.length idx us ws))) : FnX P w K mg base k x m ks idx sp := by
  refine ⟨f, fd, ps, hm, F.kp, G, ⟨fun s us ws hK hl => ?_, arr_rel⟩⟩
  obtain ⟨oc, od, dV, kV, doc, pm, an, cdv, ct, osl, rfl, lk, hcd, hD, _⟩ := F.ex
  rcases hD with ⟨_, rfl⟩ | ⟨e, _⟩
  · by_cases hc : us.length = m ∧ ws.length = ks.length
    · exact .of_eq (hb kV doc pm an cdv ct us ws hc.1 hc.2)
    · have e : arr m ks.length idx us ws = [] := if_neg hc
      rw [e] at hl
      exact absurd hl (by show (0 : Nat) ≠ ps.length; omega)
  · exact absurd rfl e
end
section
variable {X : Cx} {k m : Nat} {sp : Sp} {x : Str} {p pos : Pos} {ks : List Str} {idx : List Nat} {kws : List Keyword} {e : Expr} {es : List Expr} {t tk : TA}
def tRX (m n : Nat) (idx : List Nat) (sp : Sp) (t tk : TA) : TE := fun σ H Q => t σ H fun vs H1 => tk σ H1 fun zs H2 => ∃ us, us = arr m n idx vs zs ∧ sp us H2 Q E0
theorem r_RX {n : Nat} {σ : L2.St} {H : Hp} {Q : VK} (h : t σ H fun vs H1 => tk σ H1 fun zs H2 => ∃ us, us = arr m n idx vs zs ∧ sp us H2 Q E0) : tRX m n idx sp t tk σ H Q := h
theorem pe_fnX (F : FnX X.prog X.w X.K X.mg X.base k x m ks idx sp) (hr : Room k X.A) (ha : PA X (e :: es) t) (hkw : PK X kws tk) (hg : Gl X x := by rfl) (hdb : (x == ("__debug__" : Str)) = false := by decide)
    (hx : Passes CX0 X E0 := by exact pass0)
    (hall : (backToKw pos (keywordEach kws X.env)).all (·.1.isSome) = true := by rfl) (hks : (backToKw pos (keywordEach kws X.env)).filterMap (·.1) = ks := by rfl)
    (he : starEach (e :: es) X.env = (false, eval e X.env) :: starEach es X.env := by rfl)
    (hpl : ((backTo pos (starEach (e :: es) X.env)).any (·.1) || (backToKw pos (keywordEach kws X.env)).any (·.1.isNone)) = false := by rfl) :
    PE X (.Call (.Name x p) (e :: es) kws pos) (tRX m ks.length idx sp t tk) := by
  obtain ⟨f, fd, ps, hm, hk, F, hb⟩ := F.run
  refine ⟨fun pins s σ H Q I h => ?_⟩
  refine wpAny_Call_Name_kw (ld_glob I hg hm ?_ hdb)
  refine PySem.W.callWith_KW (h₀ := X.base) I.ok.mod.kin hk hall (thn (ha.run pos pins s σ H _ I h) fun us s1 ⟨vs, H1, I1, r, q⟩ => ?_) hpl he
  refine thn (hkw.run pos pins s1 σ H1 _ I1 q) fun ws s2 ⟨zs, H2, I2, rz, us', e, q2⟩ => ⟨I2.kIn, ?_⟩
  rw [hks]
  subst e
  exact run_fnk F hr hb hx I2 r rz q2
theorem pe_fnX0 (F : FnX X.prog X.w X.K X.mg X.base k x m ks idx sp) (hr : Room k X.A) (hkw : PK X kws tk) (hg : Gl X x := by rfl) (hdb : (x == ("__debug__" : Str)) = false := by decide)
    (hx : Passes CX0 X E0 := by exact pass0)
    (hall : (backToKw pos (keywordEach kws X.env)).all (·.1.isSome) = true := by rfl) (hks : (backToKw pos (keywordEach kws X.env)).filterMap (·.1) = ks := by rfl)
    (hpl : ((backTo pos (starEach [] X.env)).any (·.1) || (backToKw pos (keywordEach kws X.env)).any (·.1.isNone)) = false := by rfl) :
    PE X (.Call (.Name x p) [] kws pos) (tRX m ks.length idx sp tNil tk) := by
  obtain ⟨f, fd, ps, hm, hk, F, hb⟩ := F.run
  refine ⟨fun pins s σ H Q I h => ?_⟩
  refine wpAny_Call_Name_kw (ld_glob I hg hm ?_ hdb)
  refine PySem.W.callWith_KW0 (h₀ := X.base) I.ok.mod.kin hk hall ?_ hpl
  refine thn (hkw.run pos pins s σ H _ I h) fun ws s2 ⟨zs, H2, I2, rz, us, e, q2⟩ => ⟨I2.kIn, ?_⟩
  rw [hks]
  subst e
  exact run_fnk (us := []) (vs := []) F hr hb hx I2 .nil rz q2
end
/-! data clear of S -/
mutual
inductive Dq (K : PySem.W.Frag) (S : List Addr) (H : Hp) : V → PyData → Prop
  | non : Dq K S H .non .none
  | bl (b : Bool) : Dq K S H (.bl b) (.bool b)
  | int (i : Int) : Dq K S H (.int i) (.int i)
  | str (x : Str) : Dq K S H (.str x) (.str x)
  | lst {a : Addr} {xs : List V} {ds : List PyData} : a ∉ S → SqL K H a xs → DqAll K S H xs ds → Dq K S H (.ref a) (.list ds)
  | tup {a : Addr} {xs : List V} {ds : List PyData} : SqT K H a xs → DqAll K S H xs ds → Dq K S H (.ref a) (.tuple ds)
inductive DqAll (K : PySem.W.Frag) (S : List Addr) (H : Hp) : List V → List PyData → Prop
  | nil : DqAll K S H [] []
  | cons {v : V} {vs : List V} {d : PyData} {ds : List PyData} : Dq K S H v d → DqAll K S H vs ds → DqAll K S H (v :: vs) (d :: ds)
end
section
variable {K : PySem.W.Frag} {S T : List Addr} {H H1 : Hp}
mutual
theorem Dq.x (e : Ext T H H1) (hT : ∀ x ∈ T, x ∈ S) (hs : ∀ b ∈ T, ∃ l, H b = some (.lst l)) : ∀ {v : V} {d : PyData}, Dq K S H v d → Dq K S H1 v d
  | _, _, .non => .non
  | _, _, .bl b => .bl b
  | _, _, .int i => .int i
  | _, _, .str z => .str z
  | _, _, .lst na h g => .lst na (lstX e h fun q => na (hT _ q)) (DqAll.x e hT hs g)
  | _, _, .tup h g => .tup (tupX e h hs) (DqAll.x e hT hs g)
theorem DqAll.x (e : Ext T H H1) (hT : ∀ x ∈ T, x ∈ S) (hs : ∀ b ∈ T, ∃ l, H b = some (.lst l)) : ∀ {vs : List V} {ds : List PyData}, DqAll K S H vs ds → DqAll K S H1 vs ds
  | _, _, .nil => .nil
  | _, _, .cons h g => .cons (Dq.x e hT hs h) (DqAll.x e hT hs g)
end
mutual
theorem Dq.dp : ∀ {v : V} {d : PyData}, Dq K S H v d → Dp K H v d
  | _, _, .non => .non
  | _, _, .bl b => .bl b
  | _, _, .int i => .int i
  | _, _, .str z => .str z
  | _, _, .lst _ h g => .lst h (DqAll.dp g)
  | _, _, .tup h g => .tup h (DqAll.dp g)
theorem DqAll.dp : ∀ {vs : List V} {ds : List PyData}, DqAll K S H vs ds → DpAll K H vs ds
  | _, _, .nil => .nil
  | _, _, .cons h g => .cons (Dq.dp h) (DqAll.dp g)
end
theorem Dq.x0 (e : Ext [] H H1) {v : V} {d : PyData} (h : Dq K S H v d) : Dq K S H1 v d := h.x e (fun _ z => nomatch z) (fun _ z => nomatch z)
theorem DqAll.x0 (e : Ext [] H H1) {v : List V} {d : List PyData} (h : DqAll K S H v d) : DqAll K S H1 v d := h.x e (fun _ z => nomatch z) (fun _ z => nomatch z)
theorem DqAll.app : ∀ {vs ws : List V} {ds es : List PyData}, DqAll K S H vs ds → DqAll K S H ws es → DqAll K S H (vs ++ ws) (ds ++ es)
  | _, _, _, _, .nil, g => g
  | _, _, _, _, .cons h r, g => .cons h (DqAll.app r g)
theorem DqAll.get : ∀ {vs : List V} {ds : List PyData} {i : Nat} {v : V}, DqAll K S H vs ds → vs[i]? = some v → ∃ d, ds[i]? = some d ∧ Dq K S H v d
  | _, _, 0, _, .cons h _, e => by cases e; exact ⟨_, rfl, h⟩
  | _, _, i + 1, _, .cons _ r, e => DqAll.get (i := i) r e
  | _, _, 0, _, .nil, e => by cases e
  | _, _, _ + 1, _, .nil, e => by cases e
end
end Yk

/-! Rational numbers: what the program's reckoning in lowest terms is worth. -/
namespace Yk
/-- the sum in lowest terms, as the program reckons it -/
theorem add_low (a b : Rat) : (a + b).num = (a.num * ((b.den / Nat.gcd a.den b.den : Nat) : Int) + b.num * ((a.den / Nat.gcd a.den b.den : Nat) : Int)) / ((Nat.gcd (a.num * ((b.den / Nat.gcd a.den b.den : Nat) : Int) + b.num * ((a.den / Nat.gcd a.den b.den : Nat) : Int)).natAbs (Nat.gcd a.den b.den) : Nat) : Int)
    ∧ (a + b).den = a.den / Nat.gcd a.den b.den * (b.den / Nat.gcd (a.num * ((b.den / Nat.gcd a.den b.den : Nat) : Int) + b.num * ((a.den / Nat.gcd a.den b.den : Nat) : Int)).natAbs (Nat.gcd a.den b.den)) := by
  have e : a + b = Rat.add a b := rfl
  rw [e]
  unfold Rat.add
  dsimp only
  by_cases hg : Nat.gcd a.den b.den = 1
  · rw [dif_pos hg]
    simp [hg]
  · rw [dif_neg hg]
    have hmn : ∀ (num : Int) (den g : Nat) (h1 : (g : Int) ∣ num) (h2 : g ∣ den) (h3) (h4), (Rat.maybeNormalize num den g h1 h2 h3 h4).num = num / (g : Int) ∧ (Rat.maybeNormalize num den g h1 h2 h3 h4).den = den / g := by
      intro num den g h1 h2 h3 h4
      unfold Rat.maybeNormalize
      split
      · rename_i q
        subst q
        simp
      · exact ⟨by simp [Int.divExact], by simp [Nat.divExact]⟩
    obtain ⟨e1, e2⟩ := hmn _ _ _ _ _ _ _
    refine ⟨e1, ?_⟩
    rw [e2]
    have hd : Nat.gcd (a.num * ((b.den / Nat.gcd a.den b.den : Nat) : Int) + b.num * ((a.den / Nat.gcd a.den b.den : Nat) : Int)).natAbs (Nat.gcd a.den b.den) ∣ b.den := Nat.dvd_trans (Nat.gcd_dvd_right _ _) (Nat.gcd_dvd_right _ _)
    exact Nat.mul_div_assoc _ hd
theorem mul_low (a b : Rat) : (a * b).num = a.num / ((Nat.gcd a.num.natAbs b.den : Nat) : Int) * (b.num / ((Nat.gcd b.num.natAbs a.den : Nat) : Int)) ∧ (a * b).den = a.den / Nat.gcd b.num.natAbs a.den * (b.den / Nat.gcd a.num.natAbs b.den) := by
  have e : a * b = Rat.mul a b := rfl
  rw [e]
  unfold Rat.mul
  simp [Int.divExact, Nat.divExact]
/-- size: both numbers below 2 ^ n -/
def Sz (n : Nat) (q : Rat) : Prop := q.num.natAbs < 2 ^ n ∧ q.den < 2 ^ n
theorem Sz.mono {m n : Nat} {q : Rat} (h : Sz m q) (e : m ≤ n) : Sz n q := ⟨Nat.lt_of_lt_of_le h.1 (Nat.pow_le_pow_right (by decide) e), Nat.lt_of_lt_of_le h.2 (Nat.pow_le_pow_right (by decide) e)⟩
theorem sz_mk {n : Nat} {q : Rat} {a : Int} {b : Nat} (hb : 0 < b) (e : q = mkRat a b) (h1 : a.natAbs < 2 ^ n) (h2 : b < 2 ^ n) : Sz n q := by
  subst e
  constructor
  · rw [Rat.num_mkRat, if_neg (by omega)]
    have hd : ((Nat.gcd b a.natAbs : Nat) : Int) ∣ a := Int.natAbs_dvd_natAbs.mp (by simpa using Nat.gcd_dvd_right b a.natAbs)
    rw [Int.natAbs_ediv_of_dvd hd]
    refine Nat.lt_of_le_of_lt (Nat.div_le_self _ _) h1
  · rw [Rat.den_mkRat, if_neg (by omega)]
    exact Nat.lt_of_le_of_lt (Nat.div_le_self _ _) h2
theorem sz_add {m n : Nat} {a b : Rat} (ha : Sz m a) (hb : Sz n b) : Sz (m + n + 1) (a + b) := by
  have h1 : (a.num * (b.den : Int)).natAbs < 2 ^ (m + n) := by
    rw [Int.natAbs_mul, Nat.pow_add]
    exact Nat.mul_lt_mul'' ha.1 (by simpa using hb.2)
  have h2 : (b.num * (a.den : Int)).natAbs < 2 ^ (m + n) := by
    rw [Int.natAbs_mul, Nat.pow_add, Nat.mul_comm]
    exact Nat.mul_lt_mul'' (by simpa using ha.2) hb.1
  have h3 : 2 ^ (m + n + 1) = 2 ^ (m + n) + 2 ^ (m + n) := by rw [Nat.pow_succ]; omega
  refine sz_mk (a := a.num * b.den + b.num * a.den) (b := a.den * b.den) (Nat.mul_pos a.den_pos b.den_pos) ?_ ?_ ?_
  · rw [Rat.add_def, Rat.normalize_eq_mkRat]
  · have := Int.natAbs_add_le (a.num * (b.den : Int)) (b.num * (a.den : Int))
    omega
  · have h4 : a.den * b.den < 2 ^ m * 2 ^ n := Nat.mul_lt_mul'' ha.2 hb.2
    rw [← Nat.pow_add] at h4
    omega
theorem sz_mul {m n : Nat} {a b : Rat} (ha : Sz m a) (hb : Sz n b) : Sz (m + n) (a * b) := by
  refine sz_mk (a := a.num * b.num) (b := a.den * b.den) (Nat.mul_pos a.den_pos b.den_pos) ?_ ?_ ?_
  · rw [Rat.mul_def, Rat.normalize_eq_mkRat]
  · rw [Int.natAbs_mul, Nat.pow_add]
    exact Nat.mul_lt_mul'' ha.1 hb.1
  · rw [Nat.pow_add]
    exact Nat.mul_lt_mul'' ha.2 hb.2
theorem sz_neg {n : Nat} {a : Rat} (h : Sz n a) : Sz n (-a) := by
  refine ⟨?_, ?_⟩
  · rw [Rat.neg_num, Int.natAbs_neg]; exact h.1
  · exact h.2
theorem sz_inv {n : Nat} {a : Rat} (h : Sz n a) (h0 : 0 < a) : Sz n a⁻¹ := by
  have h1 : 0 < a.num := by
    have := (Rat.lt_iff 0 a).mp h0
    simpa using this
  refine ⟨?_, ?_⟩
  · rw [Rat.num_inv, Int.sign_eq_one_of_pos h1, Int.one_mul]
    simpa using h.2
  · rw [Rat.den_inv, if_neg (by omega)]
    exact h.1
theorem num_pos' {q : Rat} (h : 0 < q) : 0 < q.num := by
  have := (Rat.lt_iff 0 q).mp h
  simpa using this
theorem num_nn {q : Rat} (h : 0 ≤ q) : 0 ≤ q.num := Rat.num_nonneg.mpr h
theorem inv_parts {q : Rat} (h : 0 < q) : q⁻¹.num = (q.den : Int) ∧ (q⁻¹.den : Int) = q.num := by
  have h1 := num_pos' h
  refine ⟨?_, ?_⟩
  · rw [Rat.num_inv, Int.sign_eq_one_of_pos h1, Int.one_mul]
  · rw [Rat.den_inv, if_neg (by omega)]
    omega
/-- two numbers in lowest terms -/
theorem mk_parts (a b : Nat) (hb : 0 < b) : (mkRat (a : Int) b).num = ((a / Nat.gcd a b : Nat) : Int) ∧ (mkRat (a : Int) b).den = b / Nat.gcd a b := by
  rw [Rat.num_mkRat, Rat.den_mkRat, if_neg (by omega), if_neg (by omega)]
  simp [Nat.gcd_comm]
theorem mk_nn (a b : Nat) : 0 ≤ mkRat (a : Int) b := by
  rcases Nat.eq_zero_or_pos b with h | h
  · subst h; simp
  · have e := (mk_parts a b h).1
    have : 0 ≤ (mkRat (a : Int) b).num := by rw [e]; exact Int.natCast_nonneg _
    exact Rat.num_nonneg.mp this
end Yk
namespace Yk
theorem add_int (p q : Rat) : (p + q).num = (p.num * ((q.den : Int) / ((Nat.gcd p.den q.den : Nat) : Int)) + q.num * ((p.den : Int) / ((Nat.gcd p.den q.den : Nat) : Int))) / ((Nat.gcd (p.num * ((q.den : Int) / ((Nat.gcd p.den q.den : Nat) : Int)) + q.num * ((p.den : Int) / ((Nat.gcd p.den q.den : Nat) : Int))).natAbs (Nat.gcd p.den q.den) : Nat) : Int)
    ∧ ((p + q).den : Int) = (p.den : Int) / ((Nat.gcd p.den q.den : Nat) : Int) * ((q.den : Int) / ((Nat.gcd (p.num * ((q.den : Int) / ((Nat.gcd p.den q.den : Nat) : Int)) + q.num * ((p.den : Int) / ((Nat.gcd p.den q.den : Nat) : Int))).natAbs (Nat.gcd p.den q.den) : Nat) : Int)) := by
  obtain ⟨h1, h2⟩ := add_low p q
  constructor
  · rw [h1]
    simp only [Int.natCast_ediv]
  · rw [h2]
    simp only [Int.natCast_ediv, Int.natCast_mul]
theorem mul_int' (p q : Rat) : (p * q).num = p.num / ((Nat.gcd p.num.natAbs q.den : Nat) : Int) * (q.num / ((Nat.gcd q.num.natAbs p.den : Nat) : Int)) ∧ ((p * q).den : Int) = (p.den : Int) / ((Nat.gcd q.num.natAbs p.den : Nat) : Int) * ((q.den : Int) / ((Nat.gcd p.num.natAbs q.den : Nat) : Int)) := by
  obtain ⟨h1, h2⟩ := mul_low p q
  refine ⟨h1, ?_⟩
  rw [h2]
  simp only [Int.natCast_ediv, Int.natCast_mul]
theorem abs_div_le (a b : Int) (hb : 0 < b) : (a / b).natAbs ≤ a.natAbs := by
  have h1 := Int.natAbs_ediv_le_natAbs a b
  exact h1
end Yk
namespace Yk
def cmpQ' (p q : Rat) : Int := if p < q then -1 else if q < p then 1 else 0
theorem cmp_add (p q r : Rat) : cmpQ' (p + r) (q + r) = cmpQ' p q := by
  unfold cmpQ'
  have h1 : p + r < q + r ↔ p < q := Rat.add_lt_add_right
  have h2 : q + r < p + r ↔ q < p := Rat.add_lt_add_right
  simp only [h1, h2]
theorem cmp_more (p r : Rat) (hr : 0 ≤ r) : cmpQ' (p + r) p = if 0 < r then 1 else 0 := by
  unfold cmpQ'
  by_cases h : 0 < r
  · rw [if_neg (by grind), if_pos (by grind), if_pos h]
  · rw [if_neg (by grind), if_neg (by grind), if_neg h]
theorem cmp_mul (p q r : Rat) (hr : 0 ≤ r) : cmpQ' (p * r) (r * q) = if 0 < r then cmpQ' p q else 0 := by
  rw [Rat.mul_comm r q]
  unfold cmpQ'
  by_cases h : 0 < r
  · have h1 : p * r < q * r ↔ p < q := Rat.mul_lt_mul_right h
    have h2 : q * r < p * r ↔ q < p := Rat.mul_lt_mul_right h
    simp only [h1, h2, if_pos h]
  · have e : r = 0 := by grind
    subst e
    simp
theorem add_nn {a b : Rat} (h1 : 0 ≤ a) (h2 : 0 ≤ b) : 0 ≤ a + b := Rat.add_nonneg h1 h2
theorem mul_nn {a b : Rat} (h1 : 0 ≤ a) (h2 : 0 ≤ b) : 0 ≤ a * b := Rat.mul_nonneg h1 h2
theorem r_sub1 (p q : Rat) : p + q - q = p := by grind
theorem r_sub2 (p q r : Rat) : p + q + r - (r + q) = p := by grind
theorem r_sub3 (p : Rat) : p - p = 0 := by grind
theorem r_div1 {p q : Rat} (h : 0 < q) : p * q / q = p := by grind
theorem r_div2 {p q : Rat} (h : 0 < q) : p / q * q = p := by grind
theorem r_div3 {q : Rat} (h : 0 < q) : q / q = 1 := by grind
theorem r_dist (p q r : Rat) : p * q + p * r = p * (q + r) := by grind
theorem le1 {p q : Rat} (h : 0 ≤ p) : q ≤ p + q := by grind
theorem le2 {p q r : Rat} (h : 0 ≤ p) : r + q ≤ p + q + r := by grind
theorem num_pos_iff {r : Rat} (h : 0 ≤ r) : 0 < r.num ↔ 0 < r := by
  constructor
  · intro h1
    exact (Rat.lt_iff 0 r).mpr (by simpa using h1)
  · exact num_pos'
theorem sz_div {m n : Nat} {a b : Rat} (ha : Sz m a) (hb : Sz n b) (h : 0 < b) : Sz (m + n) (a / b) := by
  rw [Rat.div_def]
  exact sz_mul ha (sz_inv hb h)
end Yk

set_option maxHeartbeats 1000000
namespace Yk
open PySem PySem.Spec PyProof.Rows L2
def top (i : Nat) : Stmt := PySem.Challenge.pw_bandheld_k35_senders_told.main.body.getD i (.Pass ⟨0, 0, 0, 0⟩)
structure Bt (mg : Str → Option Value) : Prop where
  int : mg "int" = none
  len : mg "len" = none
  list : mg "list" = none
  tuple : mg "tuple" = none
  str : mg "str" = none
  bool : mg "bool" = none
  max : mg "max" = none
  min : mg "min" = none
  all : mg "all" = none
  any : mg "any" = none
  sum : mg "sum" = none
  isinstance : mg "isinstance" = none
  zip : mg "zip" = none
  range : mg "range" = none
  divmod : mg "divmod" = none
structure Bg (mg : Str → Option Value) : Prop extends Bt mg where
  gcd : mg "gcd" = some (.builtin "math.gcd")
/-- an amount: its two numbers in a tuple -/
def Am (K : PySem.W.Frag) (H : Hp) (v : V) (q : Rat) : Prop := ∃ a, v = .ref a ∧ SqT K H a [.int q.num, .int (q.den : Int)]
theorem Am.x {S : List Addr} {K : PySem.W.Frag} {H H1 : Hp} {v : V} {q : Rat} (e : Ext S H H1) (h : Am K H v q) (hs : ∀ b ∈ S, ∃ l, H b = some (.lst l)) : Am K H1 v q := by
  obtain ⟨a, rfl, h⟩ := h
  exact ⟨a, rfl, tupX e h hs⟩
theorem Am.x0 {K : PySem.W.Frag} {H H1 : Hp} {v : V} {q : Rat} (e : Ext [] H H1) (h : Am K H v q) : Am K H1 v q := h.x e fun _ z => nomatch z
/-- what an amount's promise hands back -/
def RetAm (K : PySem.W.Frag) (H : Hp) (Q : VK) (q : Rat) : Prop := ∀ v H', Ext [] H H' → Am K H' v q → Q v H'
def spAdded (K : PySem.W.Frag) : Sp := fun vs H Q _ => ∃ v1 v2 p q, vs = [v1, v2] ∧ Am K H v1 p ∧ Am K H v2 q ∧ Sz 4000 p ∧ Sz 4000 q ∧ RetAm K H Q (p + q)
end Yk
namespace Yk
open PySem PySem.Spec PyProof.Rows L2
theorem cdiv {n : Nat} {i : Int} {b : Nat} (h0 : 0 < b) (hb : b < 2 ^ n) (hn : 0 < n) (h9 : n ≤ 9000) : CDivW i (b : Int) := wide_div (by omega) (by simpa using hb) hn h9
theorem cmul {m n : Nat} {i j : Int} (hi : i.natAbs < 2 ^ m) (hj : j.natAbs < 2 ^ n) (h0 : 0 < m) (h1 : 0 < n) (h : m + n ≤ 1000000) : CMulW i j := wide_mul hi hj h0 h1 h
theorem dlt {n : Nat} {a b : Int} (h : a.natAbs < 2 ^ n) : (a / b).natAbs < 2 ^ n := Nat.lt_of_le_of_lt (Int.natAbs_ediv_le_natAbs a b) h
end Yk
namespace Yk
open PySem PySem.Spec PyProof.Rows L2
/-- a row of amounts -/
def Ams (K : PySem.W.Frag) (H : Hp) (vs : List V) (qs : List Rat) : Prop := vs.length = qs.length ∧ ∀ (i : Nat) (v : V) (q : Rat), vs[i]? = some v → qs[i]? = some q → Am K H v q
theorem Ams.x {S : List Addr} {K : PySem.W.Frag} {H H1 : Hp} {vs : List V} {qs : List Rat} (e : Ext S H H1) (h : Ams K H vs qs) (hs : ∀ b ∈ S, ∃ l, H b = some (.lst l)) : Ams K H1 vs qs := ⟨h.1, fun i v q a b => (h.2 i v q a b).x e hs⟩
theorem Ams.x0 {K : PySem.W.Frag} {H H1 : Hp} {vs : List V} {qs : List Rat} (e : Ext [] H H1) (h : Ams K H vs qs) : Ams K H1 vs qs := h.x e fun _ z => nomatch z
theorem Ams.at_ {K : PySem.W.Frag} {H : Hp} {vs : List V} {qs : List Rat} (h : Ams K H vs qs) {i : Nat} {v : V} (hv : vs[i]? = some v) : ∃ q, qs[i]? = some q ∧ Am K H v q := by
  have hi : i < qs.length := by rw [← h.1]; exact (List.getElem?_eq_some_iff.mp hv).1
  exact ⟨qs[i], List.getElem?_eq_getElem hi, h.2 i v _ hv (List.getElem?_eq_getElem hi)⟩
theorem Ams.nil {K : PySem.W.Frag} {H : Hp} : Ams K H [] [] := ⟨rfl, fun i v q h => by simp at h⟩
theorem Ams.cons {K : PySem.W.Frag} {H : Hp} {v : V} {q : Rat} {vs : List V} {qs : List Rat} (h : Am K H v q) (r : Ams K H vs qs) : Ams K H (v :: vs) (q :: qs) := by
  refine ⟨by simp [r.1], fun i w u a b => ?_⟩
  cases i with
  | zero =>
    simp at a b
    subst a b
    exact h
  | succ i =>
    simp at a b
    exact r.2 i w u a b
/-- the smallest, the largest of a row -/
def minQ (p : Rat) (qs : List Rat) : Rat := qs.foldl (fun m q => if q < m then q else m) p
def maxQ (p : Rat) (qs : List Rat) : Rat := qs.foldl (fun m q => if m < q then q else m) p
theorem fold_take {α : Type} {f : α → Rat → α} {z : α} {qs : List Rat} {i : Nat} {q : Rat} (h : qs[i]? = some q) : (qs.take (i + 1)).foldl f z = f ((qs.take i).foldl f z) q := by
  obtain ⟨hl, e⟩ := List.getElem?_eq_some_iff.mp h
  rw [← List.take_append_getElem hl, List.foldl_append, e]
  rfl
theorem minQ_mem {m : Nat} {p : Rat} : ∀ {qs : List Rat}, Sz m p → (∀ q ∈ qs, Sz m q) → Sz m (minQ p qs)
  | [], h, _ => h
  | q :: r, h, hq => by
    show Sz m (minQ (if q < p then q else p) r)
    refine minQ_mem ?_ fun x hx => hq x (List.mem_cons_of_mem _ hx)
    split
    · exact hq q List.mem_cons_self
    · exact h
theorem maxQ_mem {m : Nat} {p : Rat} : ∀ {qs : List Rat}, Sz m p → (∀ q ∈ qs, Sz m q) → Sz m (maxQ p qs)
  | [], h, _ => h
  | q :: r, h, hq => by
    show Sz m (maxQ (if p < q then q else p) r)
    refine maxQ_mem ?_ fun x hx => hq x (List.mem_cons_of_mem _ hx)
    split
    · exact hq q List.mem_cons_self
    · exact h
end Yk
namespace Yk
open PySem PySem.Spec PyProof.Rows L2
/-- what five numbers the bag may hold -/
def Bag5 (ns : List Int) (it : Addr) (l : List V) : Prop := ∃ (pos : Nat) (rest seed cnt : Int), l = [.ref it, .int (pos : Int), .int rest, .int seed, .int cnt] ∧ pos ≤ ns.length ∧ 0 ≤ rest ∧ 0 ≤ seed ∧ seed < 2147483629
structure Bag where
  a : Addr
  it : Addr
  ns : List Int
structure BagAt (K : PySem.W.Frag) (H : Hp) (b : Bag) : Prop where
  ex : ∃ l : List V, H b.a = some (.lst l) ∧ SqL K H b.it (b.ns.map V.int) ∧ b.ns.length ≤ 63 ∧ Bag5 b.ns b.it l
theorem BagAt.lst {K : PySem.W.Frag} {H : Hp} {b : Bag} (h : BagAt K H b) : ∃ l, H b.a = some (.lst l) := by
  obtain ⟨l, h1, _⟩ := h.ex
  exact ⟨l, h1⟩
theorem BagAt.x0 {K : PySem.W.Frag} {H H1 : Hp} {b : Bag} (h : BagAt K H b) (e : Ext [] H H1) : BagAt K H1 b := by
  obtain ⟨l, h1, h2, h3, h4⟩ := h.ex
  exact ⟨l, e _ _ h1 (fun z => nomatch z), lst0 e h2, h3, h4⟩
theorem BagAt.new {K : PySem.W.Frag} {H : Hp} {b : Bag} {p : Addr} {o : HO} (h : BagAt K H b) (hp : H p = none) : BagAt K (upd H p o) b := h.x0 (Ext.refl.new hp)
theorem BagAt.ne {K : PySem.W.Frag} {H : Hp} {b : Bag} {p : Addr} (h : BagAt K H b) (hp : H p = none) : b.a ≠ p := by
  obtain ⟨l, q⟩ := h.lst
  exact ne_of_none q hp
theorem BagAt.ne' {K : PySem.W.Frag} {H : Hp} {b : Bag} {p : Addr} (hp : H p = none) (h : BagAt K H b) : b.a ≠ p := h.ne hp
/-- what was new to a heap with the bag may change later -/
theorem BagAt.own {K : PySem.W.Frag} {H0 H : Hp} {b : Bag} {p : Addr} {o : HO} (h0 : BagAt K H0 b) (hp : H0 p = none) (h : BagAt K H b) : BagAt K (upd H p o) b := by
  obtain ⟨l0, a0, a1, _, _⟩ := h0.ex
  obtain ⟨l, h1, h2, h3, h4⟩ := h.ex
  refine ⟨l, by rw [upd_ne (ne_of_none a0 hp)]; exact h1, ?_, h3, h4⟩
  rcases a1 with a1 | a1
  · have hne : b.it ≠ p := by
      rcases a1 with a1 | ⟨u, a1⟩
      · exact ne_of_none a1 hp
      · exact ne_of_none a1 hp
    rcases h2 with (h2 | ⟨u, h2⟩) | h2
    · exact .inl (.inl (by rw [upd_ne hne]; exact h2))
    · exact .inl (.inr ⟨u, by rw [upd_ne hne]; exact h2⟩)
    · exact .inr h2
  · exact .inr a1
theorem tupB {K : PySem.W.Frag} {H H1 : Hp} {a : Addr} {b : Bag} {xs : List V} (hb : BagAt K H b) (e : Ext [b.a] H H1) (h : SqT K H a xs) : SqT K H1 a xs := tupX e h fun c hc => by rw [List.mem_singleton.mp hc]; exact hb.lst
theorem Am.b {K : PySem.W.Frag} {H H1 : Hp} {b : Bag} {v : V} {q : Rat} (hb : BagAt K H b) (e : Ext [b.a] H H1) (h : Am K H v q) : Am K H1 v q := h.x e fun c hc => by rw [List.mem_singleton.mp hc]; exact hb.lst
theorem Am.b' {K : PySem.W.Frag} {H H1 : Hp} {b : Bag} {v : V} {q : Rat} (e : Ext [b.a] H H1) (hb : BagAt K H b) (h : Am K H v q) : Am K H1 v q := h.b hb e
theorem Ams.b {K : PySem.W.Frag} {H H1 : Hp} {b : Bag} {v : List V} {q : List Rat} (hb : BagAt K H b) (e : Ext [b.a] H H1) (h : Ams K H v q) : Ams K H1 v q := h.x e fun c hc => by rw [List.mem_singleton.mp hc]; exact hb.lst
theorem Am.n {K : PySem.W.Frag} {H : Hp} {p : Addr} {o : HO} {v : V} {q : Rat} (h : Am K H v q) (hp : H p = none) : Am K (upd H p o) v q := h.x0 (Ext.refl.new hp)
theorem am_lit {K : PySem.W.Frag} {H : Hp} {a : Addr} {n : Int} {d : Nat} (hd : d ≠ 0) (hc : n.natAbs.Coprime d) (h : SqT K H a [.int n, .int (d : Int)]) : Am K H (.ref a) ⟨n, d, hd, hc⟩ := ⟨a, rfl, h⟩
end Yk

open PySem PySem.Spec PyProof.Rows L2 Yk
local macro_rules | `(tactic| walk_at "sq") => `(tactic| first
  | assumption
  | exact tupS
  | exact lstS
  | ((refine' tupN ?h1 (by assumption)); (case h1 => walk_at "sq"))
  | ((refine' lstN ?h1 (by assumption)); (case h1 => walk_at "sq"))
  | ((refine' tup0 (by assumption) ?h1); (case h1 => walk_at "sq"))
  | ((refine' lst0 (by assumption) ?h1); (case h1 => walk_at "sq")))
local macro_rules | `(tactic| walk_at "side") => `(tactic| first | assumption | decide | omega | exact Or.inr ⟨by decide, by decide⟩ | exact ⟨by decide, by decide, by decide⟩ | exact ⟨by decide, by decide +kernel⟩)
local macro_rules | `(tactic| walk_at "ty") => `(tactic| first
  | exact TyX.base TyOf.non
  | exact TyX.base (TyOf.bl _)
  | exact TyX.base (TyOf.int _)
  | exact TyX.base (TyOf.str _)
  | ((refine' tyT ?h1); (case h1 => walk_at "sq"))
  | ((refine' tyL ?h1); (case h1 => walk_at "sq")))
local macro_rules | `(tactic| walk_at "st") => `(tactic| first
  | with_reducible refine' r_seq ?_
  | with_reducible refine' r_asg ?_
  | with_reducible refine' r_ret ?_
  | with_reducible refine' r_drop ?_
  | with_reducible refine' r_ifS ?_
  | with_reducible refine' r_par ?_
  | with_reducible refine' r_name ?_
  | with_reducible refine' r_gCons ?_
  | with_reducible refine' r_gNil ?_
  | with_reducible refine' r_gSub ?_
  | ((with_reducible refine' r_gTup ?h1 ?h2 ?h3); (case h1 => walk_at "sq"); (case h2 => rfl))
  | with_reducible refine' r_op ?_
  | with_reducible refine' r_un ?_
  | with_reducible refine' r_c ?_
  | ((with_reducible refine' r_var ?h1 ?h2); (case h1 => rfl))
  | with_reducible refine' r_I0 ?_
  | with_reducible refine' r_U ?_
  | ((with_reducible refine' r_I ?h1 ?h2); (case h1 => walk_at "side"))
  | ((with_reducible refine' r_ixT ?h1 ?h2 ?h3); (case h1 => walk_at "sq"); (case h2 => rfl))
  | ((with_reducible refine' r_ixL ?h1 ?h2 ?h3); (case h1 => walk_at "sq"); (case h2 => rfl))
  | with_reducible refine' r_cons ?_
  | with_reducible refine' r_nil ?_
  | with_reducible refine' r_tup ?_
  | with_reducible refine' r_lst ?_
  | with_reducible refine' r_CB ?_
  | with_reducible refine' r_R ?_
  | with_reducible refine' r_R1 ?_
  | with_reducible refine' r_star ?_
  | with_reducible refine' r_RS ?_
  | with_reducible refine' r_RX ?_
  | with_reducible refine' r_gcd ?_
  | ((with_reducible refine' r_aug ?h1 ?h2); (case h1 => rfl))
  | with_reducible refine' r_ipI ?_
  | ((with_reducible refine' r_app ?h1 ?h2 ?h3); (case h1 => assumption); (case h2 => first | assumption | omega))
  | with_reducible refine' r_test ?_
  | with_reducible refine' r_B ?_
  | with_reducible refine' r_bl ?_
  | with_reducible refine' r_if ?_
  | with_reducible refine' r_and ?_
  | with_reducible refine' r_or ?_
  | with_reducible refine' r_not ?_
  | with_reducible refine' r_next ?_
  | with_reducible refine' r_int ?_
  | with_reducible refine' r_exI ?_
  | with_reducible refine' r_andV ?_
  | with_reducible refine' r_orV ?_
  | with_reducible refine' r_notV ?_
  | ((with_reducible refine' r_isi ?h1 ?h2 ?h3); (case h1 => walk_at "ty"); (case h2 => rfl))
  | ((with_reducible refine' r_isiT ?h1 ?h2 ?h3 ?h4); (case h1 => exact upd_same); (case h2 => walk_at "ty"); (case h3 => rfl))
  | with_reducible refine' And.intro (rfl : V.non = V.non) ?_
  | with_reducible refine' r_BM ?_
  | with_reducible refine' r_BM0 ?_
  | with_reducible refine' r_lc ?_
  | with_reducible refine' r_yes ?_
  | with_reducible refine' r_tt ?_
  | with_reducible refine' r_iRng1 ?_
  | with_reducible refine' r_iList ?_
  | with_reducible refine' r_iTup ?_
  | with_reducible refine' r_iZip ?_
  | ((with_reducible refine' r_gUnl ?h1 ?h2 ?h3); (case h1 => walk_at "sq"); (case h2 => rfl))
  | with_reducible refine' r_slL ?_
  | with_reducible refine' r_noP ?_
  | with_reducible refine' r_part ?_
  | ((with_reducible refine' r_len ?h1 ?h2); (case h1 => (first | (refine Or.inl ?_; walk_at "sq") | (refine Or.inr ?_; walk_at "sq"))))
  | ((with_reducible refine' r_eq ?h1 ?h2); (case h1 => rfl))
  | ((with_reducible refine' r_ne ?h1 ?h2); (case h1 => rfl))
  | ((with_reducible refine' And.intro ?h1 ?h2); (case h1 => (simp only [List.length_cons, List.length_nil, List.length_map]; decide)); (intro np hnp))
  | ((with_reducible refine' Exists.intro _ (Exists.intro _ (And.intro ?h1 ?h2))); (case h1 => (show ([_, _] : List V) = [_, _]; rfl)))
  | ((with_reducible refine' Exists.intro _ (And.intro ?h1 ?h2)); (case h1 => (first | (show ([_] : List V) = arr _ _ _ _ _; rfl) | (show ([_, _] : List V) = arr _ _ _ _ _; rfl) | (show ([_, _, _] : List V) = arr _ _ _ _ _; rfl)))))
local macro_rules | `(tactic| walk_at "go") => `(tactic| repeat walk_at "st")
local macro_rules | `(tactic| walk_at "bag") => `(tactic| first
  | assumption
  | (refine BagAt.new ?_ (by assumption); walk_at "bag")
  | (refine BagAt.x0 ?_ (by assumption); walk_at "bag"))
local macro_rules | `(tactic| walk_at "ext") => `(tactic| first
  | assumption
  | exact Ext.refl
  | (refine Ext.new ?_ (by assumption); walk_at "ext")
  | (refine Ext.trans ?_ (by assumption); walk_at "ext"))
local macro_rules | `(tactic| walk_at "ams") => `(tactic| first
  | exact Ams.nil
  | (refine Ams.cons ?_ ?_; (first | assumption | (refine am_lit _ _ ?_; walk_at "sq")); walk_at "ams"))
local macro_rules | `(tactic| walk_at "br") => `(tactic| first
  | ((with_reducible refine' r_true ?h1 ?h2); (case h1 => rfl))
  | ((with_reducible refine' r_false ?h1 ?h2); (case h1 => rfl)))
local macro_rules | `(tactic| walk_at "run") => `(tactic| repeat (first | walk_at "st" | walk_at "br"))
local macro_rules | `(tactic| walk_at "am") => `(tactic| first
  | assumption
  | (refine Am.x0 (by assumption) ?_; walk_at "am")
  | (refine Am.n ?_ (by assumption); walk_at "am")
  | (refine Am.b' (by assumption) (by assumption) ?_; walk_at "am"))
set_option maxHeartbeats 1000000
/-! A head whose part of the heap is told by a written list of addresses; its run's looks in pieces. -/
namespace Hk
open PySem PySem.Spec PyProof.Rows L2 He
/-- a def that stands at a path of the part -/
structure DefP where
  path : PySem.W.Frag → Addr
  name : Str
  qual : Str
  params : Arguments
  body : List Stmt
  scope : Scope
  dfl : List Dv := []
  kwd : List (Str × Dv) := []
def DefP.val (d : DefP) : FnW := some (d.name, d.qual, d.params, .stmts d.body, d.scope, mainGlobals, [], builtinsNs)
def DefP.dvs (K : PySem.W.Frag) (d : DefP) : List V := d.dfl.map (Dv.v K)
def DefP.kws (K : PySem.W.Frag) (d : DefP) : List (Str × V) := d.kwd.map fun q => (q.1, q.2.v K)
def seen (K : PySem.W.Frag) (a : Addr) : FnW := match K.lookup a with
  | some o => (match o.data with
    | .func u => some (u.name, u.qualname, u.params, u.body, u.scope, u.globals, u.closure, u.builtins)
    | _ => none)
  | none => none
def good (K : PySem.W.Frag) (d : DefP) (a : Addr) : Bool := PySem.W.keepIn K (.ref a) && match K.lookup a with
  | some o => (match o.data with
    | .func u => PySem.W.codeIn K u.code d.qual && (dflB K u.defaults (d.dvs K) && kwdB K u.kwdefaults (d.kws K))
    | _ => false)
  | none => false
theorem funD_of {K : PySem.W.Frag} {d : DefP} (e : seen K (d.path K) = d.val) (c : good K d (d.path K) = true) : ∃ fd, FunD K d.name d.qual d.params d.body d.scope (d.dvs K) (d.kws K) (d.path K) fd := by
  obtain ⟨kp, c2⟩ := Bool.and_eq_true_iff.mp c
  unfold seen at e
  generalize ha : d.path K = a at *
  cases q : K.lookup a with
  | none => simp only [q] at c2; cases c2
  | some o =>
    simp only [q] at c2 e
    obtain ⟨oc, od, dt, osl⟩ := o
    cases dt with
    | func fd =>
      dsimp only at c2 e
      obtain ⟨k1, k2⟩ := Bool.and_eq_true_iff.mp c2
      obtain ⟨k3, k4⟩ := Bool.and_eq_true_iff.mp k2
      obtain ⟨m1, m2, m3, m4, m5, m6, m7, m8, m9, m10, m11, m12, m13, m14, m15⟩ := fd
      unfold DefP.val at e
      dsimp only at e k1 k3 k4
      injection e with e
      injection e with e1 e; injection e with e2 e; injection e with e3 e; injection e with e4 e; injection e with e5 e; injection e with e6 e; injection e with e7 e8
      subst e1 e2 e3 e4 e5 e6 e7 e8
      exact ⟨_, ⟨oc, od, m8, m9, m10, m11, m12, m13, m14, osl, rfl, q, k1, dflB_ok k3, kwdB_ok k4⟩, kp⟩
    | _ => dsimp only at c2; cases c2
abbrev Al : Type := Bool × List FnW
def look (as : List Addr) (fa : List Fa) (fn : List DefP) (ex : PySem.W.Frag → Bool) (K : PySem.W.Frag) : Al := ((fa.all fun f => f.ok K) && ((fn.all fun d => good K d (d.path K)) && ex K), fn.map fun d => seen K (d.path K))
def due (fn : List DefP) : Al := (true, fn.map DefP.val)
structure Says (fa : List Fa) (fn : List DefP) (ex : PySem.W.Frag → Bool) (K : PySem.W.Frag) : Prop where
  fact : ∀ (i : Nat) (f : Fa), fa[i]? = some f → f.ok K = true
  def_ : ∀ (i : Nat) (d : DefP), fn[i]? = some d → ∃ fd, FunD K d.name d.qual d.params d.body d.scope (d.dvs K) (d.kws K) (d.path K) fd
  more : ex K = true
theorem says_of {as : List Addr} {fa : List Fa} {fn : List DefP} {ex : PySem.W.Frag → Bool} {K : PySem.W.Frag} (e : look as fa fn ex K = due fn) : Says fa fn ex K := by
  have e1 : ((fa.all fun f => f.ok K) && ((fn.all fun d => good K d (d.path K)) && ex K)) = true := congrArg (·.1) e
  have e2 : (fn.map fun d => seen K (d.path K)) = fn.map DefP.val := congrArg (·.2) e
  obtain ⟨h1, h⟩ := Bool.and_eq_true_iff.mp e1
  obtain ⟨h2, h3⟩ := Bool.and_eq_true_iff.mp h
  refine ⟨fun i f hf => List.all_eq_true.mp h1 f (List.mem_of_getElem? hf), fun i d hd => funD_of ?_ (List.all_eq_true.mp h2 d (List.mem_of_getElem? hd)), h3⟩
  have e3 := congrArg (fun l : List FnW => l[i]?) e2
  rw [List.getElem?_map, List.getElem?_map, hd] at e3
  exact Option.some.inj e3
/-- by the written addresses -/
def obG (as : List Addr) (fa : List Fa) (fn : List DefP) (ex : PySem.W.Frag → Bool) (g : Addr → Option Obj) : Al := look as fa fn ex (frG g as)
def hook (as : List Addr) (fa : List Fa) (fn : List DefP) (ex : PySem.W.Frag → Bool) : PySem.W.Hook where
  α := Al
  obs := fun s => obG as fa fn ex s.heap.get?
  val := fun _ => due fn
  says := fun _ h => ∃ K : PySem.W.Frag, K.In h ∧ Says fa fn ex K
  of := fun _ _ e => ⟨_, frG_in, says_of e⟩
  keeps := fun _ _ _ ⟨K, hK, c⟩ k => ⟨K, PySem.W.Frag.In.keeps hK k, c⟩
theorem obG_eq {as : List Addr} {fa : List Fa} {fn : List DefP} {ex : PySem.W.Frag → Bool} {g : Addr → Option Obj} {s : Shared} (h : ∀ a, g a = s.heap.get? a) : obG as fa fn ex g = (hook as fa fn ex).obs s := by
  have e : g = s.heap.get? := funext h
  rw [e]
  rfl
end Hk
namespace Hk
open PySem PySem.W PySem.Spec PyProof.Rows L2 He HandSHeadRun
/-- the def behind a property -/
def getter (K : PySem.W.Frag) (p : Addr) : Addr := match PySem.W.recIn K p "property" with
  | some (.ref g :: _) => g
  | _ => 0
noncomputable abbrev whole (r : OpenRow) (M : Nat) (w : World) := wholeF (fun p => stepQ (denQ tabQ) p w) fenceQ M r.prog
/-- one look at the run's end -/
def At {α : Type} (r : OpenRow) (M : Nat) (w : World) (f : Shared × SharedT → α) (v : α) : Prop := (whole r M w).map f = some v
theorem At.and {r : OpenRow} {M : Nat} {w : World} {f g : Shared × SharedT → Bool} (a : At r M w f true) (b : At r M w g true) : At r M w (fun x => f x && g x) true := by
  obtain ⟨x, hx, ex⟩ := Option.map_eq_some_iff.mp a
  obtain ⟨y, hy, ey⟩ := Option.map_eq_some_iff.mp b
  rw [hx] at hy
  cases hy
  exact Option.map_eq_some_iff.mpr ⟨x, hx, by rw [ex, ey]; rfl⟩
theorem join {r : OpenRow} {q : Program} {M : Nat} {loose : List Str} {w : World} {as : List Addr} {fa : List Fa} {fn : List DefP} {ex : Frag → Bool}
    (a : At r M w (fun x => obG as fa fn ex (getT x.2)) (due fn)) (b : At r M w (fun x => staticsOk (importedModules r.prog.main.body) x.1.heap x.2.abs.heap && laidKept x.1.heap x.2.abs.heap) true)
    (b2 : At r M w (fun x => namesBound r.prog x.2.abs.heap && gensDone x.2.abs) true)
    (c : At r M w (fun x => seenQ q loose (importedModules r.prog.main.body) (fun s => xlAt q [] s && recOk r.toRowW.records s) x.2.abs) (openGood q loose)) : RunEqI r q (hook as fa fn ex) (fun s => obG as fa fn ex (getT s)) M loose w := by
  obtain ⟨x, hx, e1⟩ := Option.map_eq_some_iff.mp a
  obtain ⟨x2, hx2, e2⟩ := Option.map_eq_some_iff.mp b
  obtain ⟨x3, hx3, e3⟩ := Option.map_eq_some_iff.mp b2
  obtain ⟨x4, hx4, e4⟩ := Option.map_eq_some_iff.mp c
  rw [hx] at hx2 hx3 hx4
  cases hx2
  cases hx3
  cases hx4
  obtain ⟨p1, p2⟩ := Bool.and_eq_true_iff.mp e2
  obtain ⟨p3, p4⟩ := Bool.and_eq_true_iff.mp e3
  refine Option.map_eq_some_iff.mpr ⟨x, hx, ?_⟩
  have l : looksF r.prog x.1.heap x.2.abs = true := by
    unfold looksF
    rw [p1, p2, p3, p4]
    rfl
  rw [l, e4]
  exact congrArg (fun z => (true, openGood q loose, z)) e1
end Hk
namespace Hk
open PySem PySem.W PySem.Spec PyProof.Rows L2 He
/-- the class x has the name f as a property -/
def propB (K : Frag) (x f : Str) : Bool := eqO (findIn K (.ref (ga K x)) f) (some (some (.ref (ma K (ga K x) f)))) && (eqO (specialIn K (.ref (ma K (ga K x) f)) "__get__") (some (some (.builtin "property.__get__"))) &&
  (decide (takesIn K (.ref (ma K (ga K x) f)) = some true) && (match recIn K (ma K (ga K x) f) "property" with
    | some (.ref _ :: _) => true
    | _ => false)))
theorem propB_ok {K : Frag} {x f : Str} (h : propB K x f = true) : PropOf K (ga K x) f (ma K (ga K x) f) (getter K (ma K (ga K x) f)) := by
  obtain ⟨h1, h⟩ := Bool.and_eq_true_iff.mp h
  obtain ⟨h2, h⟩ := Bool.and_eq_true_iff.mp h
  obtain ⟨h3, h4⟩ := Bool.and_eq_true_iff.mp h
  refine ⟨eqO_ok h1, eqO_ok h2, of_decide_eq_true h3, ?_⟩
  unfold getter
  cases e : recIn K (ma K (ga K x) f) "property" with
  | none => rw [e] at h4; cases h4
  | some l =>
    rw [e] at h4
    cases l with
    | nil => cases h4
    | cons v r =>
      cases v with
      | ref g => exact ⟨r, rfl⟩
      | _ => cases h4
end Hk

set_option maxHeartbeats 1000000
/-! Classes: fields, methods and making by names; all promises are told by place. -/
namespace Yk
open PySem PySem.Spec PyProof.Rows L2
/-- a class of the text: its name's place, and the fields that its text has not -/
structure Ct (K : PySem.W.Frag) (mg : Str → Option Value) (x : Str) (C : Addr) (fs : List Str) : Prop where
  hm : mg x = some (.ref C)
  cls : Cls K C
  no : ∀ f ∈ fs, NoAttr K C f
/-- the object at a -/
def Ob (H : Hp) (C : Addr) (a : Addr) (fs : List (Str × V)) : Prop := ∃ dx, H a = some (.ins C dx fs)
theorem Ob.x {S : List Addr} {H H1 : Hp} {C a : Addr} {fs : List (Str × V)} (e : Ext S H H1) (h : Ob H C a fs) (hs : ∀ b ∈ S, ∃ l, H b = some (.lst l)) : Ob H1 C a fs := by
  obtain ⟨dx, h⟩ := h
  exact ⟨dx, e a _ h fun z => by obtain ⟨l, q⟩ := hs a z; rw [h] at q; cases q⟩
theorem Ob.x0 {H H1 : Hp} {C a : Addr} {fs : List (Str × V)} (e : Ext [] H H1) (h : Ob H C a fs) : Ob H1 C a fs := h.x e fun _ z => nomatch z
section
variable {X : Cx} {C : Addr} {x f m : Str} {fs : List Str} {o e value : Expr} {pos pos' p apos : Pos} {te ta tv : TE}
/-- e.f -/
def tAt (C : Addr) (f : Str) (te : TE) : TE := fun σ H Q => te σ H fun x H1 => ∃ a dx fs v, x = .ref a ∧ H1 a = some (.ins C dx fs) ∧ fs.lookup f = some v ∧ Q v H1
theorem pe_at (c : Ct X.K X.mg x C fs) (hf : f ∈ fs) (he : PE X e te) (hb : attributeBase e f X.env (eval e X.env) = eval e X.env := by rfl) : PE X (.Attribute e f pos) (tAt C f te) := by
  refine ⟨fun pins s σ H Q I h => ?_⟩
  refine attr_of hb (thn (he.run pins s σ H _ I h) fun u s1 ⟨x, H1, I1, rx, a, dx, fs, v, ex, ea, l, q⟩ => ?_)
  subst ex
  obtain rfl : u = Value.ref a := rx
  exact getattr_ok I1 ea c.cls (c.no _ hf) l fun u' s2 I2 ru => ⟨v, H1, I2, ru, q⟩
theorem r_at {a : Addr} {v : V} {fs : List (Str × V)} {σ : L2.St} {H : Hp} {Q : VK} (h1 : Ob H C a fs) (h2 : fs.lookup f = some v) (h : Q v H) : (fun x H1 => ∃ a dx fs v, x = V.ref a ∧ H1 a = some (.ins C dx fs) ∧ fs.lookup f = some v ∧ Q v H1) (V.ref a) H := by
  obtain ⟨dx, h1⟩ := h1
  exact ⟨a, dx, fs, v, rfl, h1, h2, h⟩
/-- e.f = value -/
def sAt (C : Addr) (f : Str) (te tv : TE) : TS := fun D σ H => tv σ H fun y H1 => te σ H1 fun x H2 => ∃ a dx fs, x = .ref a ∧ H2 a = some (.ins C dx fs) ∧ fs.length < 1000 ∧ D.nx σ (upd H2 a (.ins C dx (putF f y fs)))
theorem ps_at (c : Ct X.K X.mg x C fs) (hf : f ∈ fs) (ha : PE X o te) (hv : PE X value tv) (hs : swapsWith value (some (.Attribute o f pos')) pos.line X.env = pure false := by rfl) : PS X (.Assign [.Attribute o f pos'] value pos) (sAt C f te tv) := by
  refine ⟨fun pins s σ H D I h => ?_⟩
  refine plainObj_wpAny_Assign_Attribute (thn (hv.run pins s σ H _ I h) fun u s1 ⟨y, H1, I1, ry, q⟩ => thn (ha.run pins s1 σ H1 _ I1 q) fun ov s2 ⟨x, H2, I2, rx, a, dx, fs, ex, ea, l, q2⟩ => ?_) hs
  subst ex
  obtain rfl : ov = Value.ref a := rx
  exact setattr_ok I2 ea c.cls (c.no _ hf) l ry fun s3 I3 => ⟨σ, _, I3, q2⟩
end
section
variable (P : Program) (w : World) (K : PySem.W.Frag) (mg : Str → Option Value) (base : Heap)
/-- a method -/
structure Mt (k : Nat) (C : Addr) (m : Str) (sp : Sp) : Prop where
  run : ∃ f, Cls K C ∧ Meth K C m f ∧ FnR P w K mg base CX0 k f sp
/-- what makes an object: by place -/
structure Cr (k : Nat) (x : Str) (C : Addr) (sp : Sp) : Prop where
  run : ∃ f, mg x = some (.ref C) ∧ Mk K C f ∧ FnR P w K mg base CX0 k f sp
/-- .. with n values by place and the keywords ks: the parameters (the object ahead) are gV's -/
structure CrK (k : Nat) (x : Str) (C : Addr) (n : Nat) (ks : List Str) (gV : List V → List V → List V) (sp : Sp) : Prop where
  run : ∃ f fd ps g, mg x = some (.ref C) ∧ Mk K C f ∧ FnOk P w K mg base CX0 k f fd ps sp ∧ KBn K fd ps (n + 1) ks g gV
end
section
variable {X : Cx} {k n : Nat} {C : Addr} {sp : Sp} {x m : Str} {o e : Expr} {es : List Expr} {kws : List Keyword} {pos p apos : Pos} {te : TE} {t tk : TA} {pl : Sem Bool} {ks : List Str} {gV : List V → List V → List V}
/-- o.m(..) -/
def tMt (C : Addr) (m : Str) (sp : Sp) (te : TE) (t : TA) : TE := fun σ H Q => te σ H fun x H1 => ∃ a dx fs, x = .ref a ∧ H1 a = some (.ins C dx fs) ∧ fs.lookup m = none ∧ t σ H1 fun vs H2 => sp (x :: vs) H2 Q E0
theorem pe_mt (F : Mt X.prog X.w X.K X.mg X.base k C m sp) (hr : Room k X.A) (he : PE X o te) (ha : PA X (e :: es) t) (hx : Passes CX0 X E0 := by exact pass0)
    (hst : starEach (e :: es) X.env = (false, eval e X.env) :: starEach es X.env := by rfl) (hpl : (backTo pos (starEach es X.env)).any (·.1) = false := by rfl)
    (ht : eval (.Call (.Attribute o m apos) (e :: es) [] pos) X.env = (do
      let ov ← eval o X.env
      standAt apos.atName
      let (f, first) ← holding [ov] (getMethod ov m pl)
      callWith pos f first (backTo pos (starEach (e :: es) X.env)) (backToKw pos (keywordEach [] X.env))) := by rfl) :
    PE X (.Call (.Attribute o m apos) (e :: es) [] pos) (tMt C m sp te t) := by
  obtain ⟨f, c, hm, F⟩ := F.run
  refine ⟨fun pins s σ H Q I h => ?_⟩
  refine PySem.W.methodCall_KW (pl := pl) (thn (he.run pins s σ H _ I h) fun u s1 ⟨x, H1, I1, rx, a, dx, fs, ex, ea, l, q⟩ => ?_) ht
  subst ex
  obtain rfl : u = Value.ref a := rx
  refine getmeth_ok I1 ea c hm l ?_
  refine PySem.W.callWith_K (first := [.ref a]) (h₀ := X.base) I.ok.mod.kin hm.kp (thn (ha.run pos pins s1 σ H1 _ I1 q) fun us s2 ⟨vs, H2, I2, r, q2⟩ => ⟨I2.kIn, ?_⟩) hst hpl
  exact wpAny_call (run_fnR (us := .ref a :: us) (vs := .ref a :: vs) F hr hx I2 (.cons rfl r) q2)
theorem pe_mt0 (F : Mt X.prog X.w X.K X.mg X.base k C m sp) (hr : Room k X.A) (he : PE X o te) (hx : Passes CX0 X E0 := by exact pass0)
    (ht : eval (.Call (.Attribute o m apos) [] [] pos) X.env = (do
      let ov ← eval o X.env
      standAt apos.atName
      let (f, first) ← holding [ov] (getMethod ov m pl)
      callWith pos f first (backTo pos (starEach [] X.env)) (backToKw pos (keywordEach [] X.env))) := by rfl) :
    PE X (.Call (.Attribute o m apos) [] [] pos) (tMt C m sp te tNil) := by
  obtain ⟨f, c, hm, F⟩ := F.run
  refine ⟨fun pins s σ H Q I h => ?_⟩
  refine PySem.W.methodCall_KW (pl := pl) (thn (he.run pins s σ H _ I h) fun u s1 ⟨x, H1, I1, rx, a, dx, fs, ex, ea, l, q⟩ => ?_) ht
  subst ex
  obtain rfl : u = Value.ref a := rx
  refine getmeth_ok I1 ea c hm l ?_
  exact PySem.W.callWith_K0 (first := [.ref a]) I1.kIn hm.kp (wpAny_call (run_fnR (us := [.ref a]) (vs := [.ref a]) F hr hx I1 (.cons rfl .nil) q))
/-- C(e, ..) -/
def tCr (C : Addr) (sp : Sp) (t : TA) : TE := fun σ H Q => t σ H fun vs H1 => ∀ x dx, H1 x = Option.none → H1 dx = Option.none → dx ≠ x → sp (V.ref x :: vs) (upd (upd H1 dx (.own x)) x (.ins C dx [])) (fun v H2 => v = .non ∧ Q (.ref x) H2) E0
theorem pe_cr (F : Cr X.prog X.w X.K X.mg X.base k x C sp) (hr : Room (k + 1) X.A) (ha : PA X (e :: es) t) (hg : Gl X x := by rfl) (hx : Passes CX0 X E0 := by exact pass0) (hdb : (x == ("__debug__" : Str)) = false := by decide)
    (he : starEach (e :: es) X.env = (false, eval e X.env) :: starEach es X.env := by rfl) (hpl : (backTo pos (starEach es X.env)).any (·.1) = false := by rfl) : PE X (.Call (.Name x p) (e :: es) [] pos) (tCr C sp t) := by
  obtain ⟨f, hm, M, F⟩ := F.run
  exact StX.pe_makeR M F hr hg hm hx ha hdb he hpl
/-- C(e, .., *x) -/
theorem pe_crS2 (F : Cr X.prog X.w X.K X.mg X.base k x C sp) (hr : Room (k + 1) X.A) (ha : PA X (e :: es) t) (hg : Gl X x := by rfl) (hx : Passes CX0 X E0 := by exact pass0) (hdb : (x == ("__debug__" : Str)) = false := by decide)
    (he : starEach (e :: es) X.env = (false, eval e X.env) :: starEach es X.env := by rfl) (hst : (backTo pos (starEach es X.env)).any (·.1) = true := by rfl) : PE X (.Call (.Name x p) (e :: es) [] pos) (tCr C sp t) := by
  obtain ⟨f, hm, M, F⟩ := F.run
  refine ⟨fun pins s σ H Q I h => ?_⟩
  refine wpAny_Call_Name_kw (ld_glob I hg hm ?_ hdb)
  refine PySem.W.callWith_S2 (h₀ := X.base) I.ok.mod.kin M.kp (thn (ha.run pos pins s σ H _ I h) fun us s1 ⟨vs, H1, I1, r, q⟩ => ⟨I1.kIn, ?_⟩) he hst
  exact StX.run_makeR M F hr hx I1 r q
/-- C(e, .., k = v, ..) -/
def tCrK (C : Addr) (n m : Nat) (sp : Sp) (gV : List V → List V → List V) (t tk : TA) : TE := fun σ H Q => t σ H fun vs H1 => tk σ H1 fun zs H2 => vs.length = n ∧ zs.length = m ∧ ∀ x dx, H2 x = none → H2 dx = none → dx ≠ x →
  sp (gV (.ref x :: vs) zs) (upd (upd H2 dx (.own x)) x (.ins C dx [])) (fun v H3 => v = .non ∧ Q (.ref x) H3) E0
theorem pe_crK (F : CrK X.prog X.w X.K X.mg X.base k x C n ks gV sp) (hr : Room (k + 1) X.A) (ha : PA X (e :: es) t) (hkw : PK X kws tk) (hg : Gl X x := by rfl) (hx : Passes CX0 X E0 := by exact pass0)
    (hall : (backToKw pos (keywordEach kws X.env)).all (·.1.isSome) = true := by rfl) (hks : (backToKw pos (keywordEach kws X.env)).filterMap (·.1) = ks := by rfl) (hdb : (x == ("__debug__" : Str)) = false := by decide)
    (he : starEach (e :: es) X.env = (false, eval e X.env) :: starEach es X.env := by rfl) (hpl : ((backTo pos (starEach (e :: es) X.env)).any (·.1) || (backToKw pos (keywordEach kws X.env)).any (·.1.isNone)) = false := by rfl) :
    PE X (.Call (.Name x p) (e :: es) kws pos) (tCrK C n ks.length sp gV t tk) := by
  obtain ⟨f, fd, ps, g, hm, M, F, hb⟩ := F.run
  exact pe_makeK M F hr hg hm hb hx ha hkw hall hks hdb he hpl
theorem pe_crK0 (F : CrK X.prog X.w X.K X.mg X.base k x C 0 ks gV sp) (hr : Room (k + 1) X.A) (hkw : PK X kws tk) (hg : Gl X x := by rfl) (hx : Passes CX0 X E0 := by exact pass0)
    (hall : (backToKw pos (keywordEach kws X.env)).all (·.1.isSome) = true := by rfl) (hks : (backToKw pos (keywordEach kws X.env)).filterMap (·.1) = ks := by rfl) (hdb : (x == ("__debug__" : Str)) = false := by decide)
    (hpl : ((backTo pos (starEach [] X.env)).any (·.1) || (backToKw pos (keywordEach kws X.env)).any (·.1.isNone)) = false := by rfl) :
    PE X (.Call (.Name x p) [] kws pos) (tCrK C 0 ks.length sp gV tNil tk) := by
  obtain ⟨f, fd, ps, g, hm, M, F, hb⟩ := F.run
  exact pe_makeK0 M F hr hg hm hb hx hkw hall hks hdb hpl
end
section
variable {P : Program} {w : World} {K : PySem.W.Frag} {mg : Str → Option Value} {base : Heap} {f C : Addr} {fd : FuncData} {x qual : Str} {params : Arguments} {body : List Stmt} {scope : Scope} {dvs : List V} {kws : List (Str × V)} {N ps : List Str} {k : Nat} {sp : Sp}
/-- a method (or a def with defaults) keeps its promise -/
theorem ok_meth (F : FunD K x qual params body scope dvs kws f fd) (S : FnScope N ps scope) (len : ∀ vs H Q E, sp vs H Q E → vs.length = ps.length)
    (hbody : ∀ (cdv : Value) (A : Around) (outer : List Env) (s : Shared) (H : Hp) (vs : List V) (Q : VK) (E : XK), Room k (A.deeper (envOfC qual scope s.heap.objs.size f cdv)) → sp vs H Q E →
      ∃ t, PSs (cxOf CX0 P w K mg base N qual scope f cdv A outer s H E).nox body t ∧ t ⟨fun _ H' => Q .non H', Q, fun _ _ => False, fun _ _ => False⟩ (start N vs) H) : FnOk P w K mg base CX0 (k + 1) f fd ps sp :=
  F.ok S len fun cdv A outer s H vs Q E hr h => by
    obtain ⟨t, h1, h2⟩ := hbody cdv A outer s H vs Q E hr h
    exact ⟨t, h1.nox, h2⟩
theorem raw_meth (F : FunD K x qual params body scope [] [] f fd) (G : FnOk P w K mg base CX0 k f fd ps sp)
    (hb : ∀ (kV doc pm : Value) (an : Option Addr) (cdv ct : Value) (us : List Value), us.length = ps.length → bindArgs (PySem.W.fnOf x qual params body scope .none kV doc pm an cdv ct) ⟨us, []⟩ = pure (ps.zip us)) : FnR P w K mg base CX0 k f sp := by
  have b := F.bindsN hb
  have R := G.raw b .nil
  refine R.imp fun vs H Q E h => ?_
  rw [List.append_nil]
  exact h
/-- def m(self, .., *v) -/
theorem raw_star {pv : Str} {sp' : Sp} (F : FunD K x qual params body scope [] [] f fd) (S : FnScope N (ps ++ [pv]) scope)
    (hb : ∀ (kV doc pm : Value) (an : Option Addr) (cdv ct : Value) (us rest : List Value), us.length = ps.length → bindArgs (PySem.W.fnOf x qual params body scope .none kV doc pm an cdv ct) ⟨us ++ rest, []⟩ = (newTuple rest >>= fun t => pure (ps.zip us ++ [(pv, t)])))
    (hbody : ∀ (cdv : Value) (A : Around) (outer : List Env) (s : Shared) (H : Hp) (vs : List V) (Q : VK) (E : XK), Room k (A.deeper (envOfC qual scope s.heap.objs.size f cdv)) → sp vs H Q E →
      ∃ t, PSs (cxOf CX0 P w K mg base N qual scope f cdv A outer s H E).nox body t ∧ t ⟨fun _ H' => Q .non H', Q, fun _ _ => False, fun _ _ => False⟩ (start N vs) H)
    (himp : ∀ vs H Q E, sp' vs H Q E → ∃ ws rest, vs = ws ++ rest ∧ ws.length = ps.length ∧ rest.length ≤ sizeLine ∧ ∀ p, H p = none → sp (ws ++ [V.ref p]) (upd H p (.tup rest)) Q E) : FnR P w K mg base CX0 (k + 1) f sp' := by
  obtain ⟨oc, od, dV, kV, doc, pm, an, cdv, ct, osl, rfl, lk, hcd, hD, _⟩ := F.ex
  rcases hD with ⟨_, rfl⟩ | ⟨e, _⟩
  · have R := StX.fn_star (P := P) (w := w) (mg := mg) (base := base) (sp := sp) lk hcd S StX.cxUp_none (hb kV doc pm an cdv ct) (fun A outer s H vs Q E hr h => let ⟨t, h1, h2⟩ := hbody cdv A outer s H vs Q E hr h; ⟨t, h1.nox, h2⟩)
    exact R.imp himp
  · exact absurd rfl e
theorem mt_of (c : Cls K C) (hm : Meth K C x f) (R : FnR P w K mg base CX0 k f sp) : Mt P w K mg base k C x sp := ⟨f, c, hm, R⟩
theorem cr_of {y : Str} (hy : mg y = some (.ref C)) (M : Mk K C f) (R : FnR P w K mg base CX0 k f sp) : Cr P w K mg base k y C sp := ⟨f, hy, M, R⟩
end
end Yk
namespace Yk
open PySem PySem.Spec PyProof.Rows L2
theorem upd_upd {H : Hp} {a : Addr} {x y : HO} : upd (upd H a x) a y = upd H a y := by
  funext b
  by_cases h : a = b
  · subst h; rw [upd_same, upd_same]
  · rw [upd_ne (Ne.symm h), upd_ne (Ne.symm h), upd_ne (Ne.symm h)]
theorem upd_self {H : Hp} {a : Addr} {x : HO} (h : H a = some x) : upd H a x = H := by
  funext b
  by_cases q : a = b
  · subst q; rw [upd_same, h]
  · rw [upd_ne (Ne.symm q)]
section
variable {nx : L2.St → Hp → Prop} {rt : VK} {bk ct : L2.St → Hp → Prop} {σ : L2.St} {H : Hp} {K : PySem.W.Frag} {Q : VK} {te ta tb tc tv : TE} {C a dx : Addr} {f m : Str} {fs : List (Str × V)} {v y : V} {r r' : R2} {sp : Sp} {t tk : TA}
theorem r_tAt (h : te σ H fun x H1 => ∃ a dx fs v, x = .ref a ∧ H1 a = some (.ins C dx fs) ∧ fs.lookup f = some v ∧ Q v H1) : tAt C f te σ H Q := h
theorem r_fld {R : V → Prop} (h1 : H a = some (.ins C dx fs)) (h2 : fs.lookup f = some v) (h : R v) : ∃ a' dx' fs' v', V.ref a = .ref a' ∧ H a' = some (.ins C dx' fs') ∧ fs'.lookup f = some v' ∧ R v' := ⟨a, dx, fs, v, rfl, h1, h2, h⟩
theorem r_sAt (h : tv σ H fun y H1 => te σ H1 fun x H2 => ∃ a dx fs, x = .ref a ∧ H2 a = some (.ins C dx fs) ∧ fs.length < 1000 ∧ nx σ (upd H2 a (.ins C dx (putF f y fs)))) : sAt C f te tv ⟨nx, rt, bk, ct⟩ σ H := h
theorem r_put {R : Hp → Prop} (h1 : H a = some (.ins C dx fs)) (h2 : fs.length < 1000) (h : R (upd H a (.ins C dx (putF f y fs)))) : ∃ a' dx' fs', V.ref a = .ref a' ∧ H a' = some (.ins C dx' fs') ∧ fs'.length < 1000 ∧ R (upd H a' (.ins C dx' (putF f y fs'))) := ⟨a, dx, fs, rfl, h1, h2, h⟩
theorem putF_lt {N : Nat} (h : fs.length < N) : (putF f v fs).length < N + 1 := Nat.lt_of_le_of_lt (length_putF f v fs) (by omega)
theorem r_putU {R : Hp → Prop} (h2 : fs.length < 1000) (h : R (upd H a (.ins C dx (putF f y fs)))) : ∃ a' dx' fs', V.ref a = .ref a' ∧ upd H a (.ins C dx fs) a' = some (.ins C dx' fs') ∧ fs'.length < 1000 ∧ R (upd (upd H a (.ins C dx fs)) a' (.ins C dx' (putF f y fs'))) :=
  ⟨a, dx, fs, rfl, upd_same, h2, by rw [upd_upd]; exact h⟩
theorem r_tMt (h : te σ H fun x H1 => ∃ a dx fs, x = .ref a ∧ H1 a = some (.ins C dx fs) ∧ fs.lookup m = none ∧ t σ H1 fun vs H2 => sp (x :: vs) H2 Q E0) : tMt C m sp te t σ H Q := h
theorem r_met {R : Prop} (h1 : H a = some (.ins C dx fs)) (h2 : fs.lookup m = none) (h : R) : ∃ a' dx' fs', V.ref a = .ref a' ∧ H a' = some (.ins C dx' fs') ∧ fs'.lookup m = none ∧ R := ⟨a, dx, fs, rfl, h1, h2, h⟩
theorem r_tCr (h : t σ H fun vs H1 => ∀ x dx, H1 x = Option.none → H1 dx = Option.none → dx ≠ x → sp (V.ref x :: vs) (upd (upd H1 dx (.own x)) x (.ins C dx [])) (fun v H2 => v = .non ∧ Q (.ref x) H2) E0) : tCr C sp t σ H Q := h
theorem r_tCrK {n k : Nat} {gV : List V → List V → List V} (h : t σ H fun vs H1 => tk σ H1 fun zs H2 => vs.length = n ∧ zs.length = k ∧ ∀ x dx, H2 x = none → H2 dx = none → dx ≠ x →
  sp (gV (.ref x :: vs) zs) (upd (upd H2 dx (.own x)) x (.ins C dx [])) (fun v H3 => v = .non ∧ Q (.ref x) H3) E0) : tCrK C n k sp gV t tk σ H Q := h
theorem r_chain (h : ta σ H fun x H1 => tb σ H1 fun y H2 => r x y H2 fun z H3 => ∃ k, z = .bl k ∧ (if k = true then tc σ H3 fun w' H4 => r' y w' H4 Q else Q (.bl false) H3)) : tChain r r' ta tb tc σ H Q := h
theorem r_in {neg : Bool} {p : Addr} {xs : List V} {x : V} (h1 : SqL K H p xs ∨ SqT K H p xs) (h2 : flatV x = true) (h3 : xs.all flatV = true) (h : Q (.bl (if neg then !inV x xs else inV x xs)) H) : rIn K neg x (.ref p) H Q := ⟨p, xs, rfl, h1, h2, h3, h⟩
end
/-! isinstance of the text's own classes; constants of a class -/
/-- the type of the class's objects is the class -/
structure Ty1 (K : PySem.W.Frag) (C : Addr) : Prop where
  ty : ∀ (H : Hp) (a dx : Addr) (fs : List (Str × V)), H a = some (.ins C dx fs) → TyX K H (.ref a) (.ref C)
section
variable {H : Hp} {K : PySem.W.Frag} {Q : VK} {C D D1 D2 a p dx : Addr} {fs : List (Str × V)} {b : Bool} {te : TE} {f : Str} {σ : L2.St}
theorem r_isiO (Y : Ty1 K C) (h : H a = some (.ins C dx fs)) (e : PySem.W.kitOne K (.ref C) (.ref D) = some b) (k : Q (.bl b) H) : rIsi K [.ref a, .ref D] H Q := ⟨.ref a, .ref D, .ref C, .ref D, b, rfl, .own D, Y.ty _ _ _ _ h, e, k⟩
theorem r_isiOT (Y : Ty1 K C) (hp : H p = some (.tup [.ref D1, .ref D2])) (h : H a = some (.ins C dx fs)) (e : PySem.W.kitAny K (.ref C) [.ref D1, .ref D2] = some b) (k : Q (.bl b) H) : rIsiT K [.ref a, .ref p] H Q :=
  ⟨.ref a, p, [.ref D1, .ref D2], .ref C, [.ref D1, .ref D2], b, rfl, hp, .cons (.own D1) (.cons (.own D2) .nil), Y.ty _ _ _ _ h, e, k⟩
/-- C.f, a constant of the class -/
theorem r_cval {mc : Value} {v : V} {u : Value} (r : ClX.CRead K C mc) (c : ClX.CVal K C mc f v u) (h : Q v H) : ClX.tCVal K (tC (.ref C)) f σ H Q := ⟨C, mc, v, u, rfl, r, c, h⟩
end
end Yk
namespace Yk
open PySem PySem.Spec PyProof.Rows L2
section
variable (P : Program) (w : World) (K : PySem.W.Frag) (mg : Str → Option Value) (base : Heap)
/-- a property -/
structure Pr (k : Nat) (C : Addr) (f : Str) (sp : Sp) : Prop where
  run : ∃ p g fd, Cls K C ∧ PropOf K C f p g ∧ FnOk P w K mg base CX0 k g fd ["self"] sp ∧ Binds K fd ["self"] []
end
section
variable {X : Cx} {k : Nat} {C : Addr} {f : Str} {sp : Sp} {e : Expr} {te : TE} {pos : Pos}
/-- e.f, f a property -/
def tPr (C : Addr) (sp : Sp) (te : TE) : TE := fun σ H Q => te σ H fun x H1 => ∃ a dx fs, x = .ref a ∧ H1 a = some (.ins C dx fs) ∧ sp [.ref a] H1 Q E0
theorem pe_pr (F : Pr X.prog X.w X.K X.mg X.base k C f sp) (hr : Room (k + 1) X.A) (he : PE X e te) (hab : attributeBase e f X.env (eval e X.env) = eval e X.env := by rfl) : PE X (.Attribute e f pos) (tPr C sp te) := by
  obtain ⟨p, g, fd, c, hp, G, hb⟩ := F.run
  exact pe_prop he c hp G hr hb .nil pass0 hab
theorem r_tPr {σ : L2.St} {H : Hp} {Q : VK} (h : te σ H fun x H1 => ∃ a dx fs, x = .ref a ∧ H1 a = some (.ins C dx fs) ∧ sp [.ref a] H1 Q E0) : tPr C sp te σ H Q := h
theorem r_prp {H : Hp} {a dx : Addr} {fs : List (Str × V)} {R : Prop} (h1 : H a = some (.ins C dx fs)) (h : R) : ∃ a' dx' fs', V.ref a = .ref a' ∧ H a' = some (.ins C dx' fs') ∧ R := ⟨a, dx, fs, rfl, h1, h⟩
end
end Yk

set_option maxHeartbeats 1000000
/-! super().m(..) as the first row of a method that closes over its class. -/
namespace Yk
open PySem PySem.Spec PyProof.Rows L2
theorem mem_cellsFrom : ∀ {names : List (Str × NameKind)} {n : Nat} {acc : List (Str × Addr)} {x : Str} {c : Addr}, (x, c) ∈ cellsFrom n names acc → (x, c) ∈ acc ∨ (x, NameKind.cell) ∈ names
  | [], _, _, _, _, h => .inl h
  | (nm, k) :: r, n, acc, x, c, h => by
    unfold cellsFrom at h
    split at h
    · rename_i hk
      have hk' : k = NameKind.cell := beq_iff_eq.mp hk
      rcases mem_cellsFrom h with h | h
      · rcases List.mem_cons.mp h with e | h
        · cases e
          exact .inr (by rw [hk']; exact List.mem_cons_self)
        · exact .inl h
      · exact .inr (List.mem_cons_of_mem _ h)
    · exact (mem_cellsFrom h).imp id (List.mem_cons_of_mem _)
theorem cellsFrom_app : ∀ (names : List (Str × NameKind)) (n : Nat) (acc : List (Str × Addr)), cellsFrom n names acc = cellsFrom n names [] ++ acc
  | [], _, _ => rfl
  | (nm, k) :: r, n, acc => by
    unfold cellsFrom
    split
    · rw [cellsFrom_app r (n + 1) ((nm, n) :: acc), cellsFrom_app r (n + 1) [(nm, n)], List.append_assoc]
      rfl
    · exact cellsFrom_app r n acc
/-- the state in a call whose env closes over cc -/
structure InD (cc : Addr) (s₀ : Shared) (L : Addr) (m : Str → Option Value) (cs : List (Str × Addr)) (cm : Str → Option Value) (s : Shared) : Prop where
  toInCall : InCall s₀ L m s
  cell : ∀ n c, cs.lookup n = some c → s.heap.IsCell c (cm n)
  apart : cs.Pairwise fun x y => x.2 ≠ y.2
  above : ∀ n c, (n, c) ∈ cs → L < c ∨ (n = "__class__" ∧ c = cc)
  low : cc < s₀.heap.objs.size
theorem InD.ne {cc : Addr} {s₀ s : Shared} {L : Addr} {m cm : Str → Option Value} {cs : List (Str × Addr)} (x : InD cc s₀ L m cs cm s) {n : Str} {c : Addr} (h : (n, c) ∈ cs) : c ≠ L := by
  rcases x.above n c h with h | ⟨_, rfl⟩
  · exact Nat.ne_of_gt h
  · exact Nat.ne_of_lt (Nat.lt_of_lt_of_le x.low x.toInCall.fresh)
section
variable {M : Model} {A : Around} {E : Value → Shared → Prop} {s₀ s : Shared} {m cm : Str → Option Value} {env : Env} {cc : Addr}
theorem stLD {n : Str} {v : Value} {Q : Unit → Shared → Prop} (x : InD cc s₀ env.locals m env.cells cm s) (hk : env.scope.kind = .function) (hl : env.kindOf n = some .local)
    (h : ∀ s', InD cc s₀ env.locals (fun y => if y = n then some v else m y) env.cells cm s' → Q () s') : wpAny M A (storeName env n v) Q E s := by
  refine wpAny_storeName_local hl x.toInCall.ns (fun h' hn' hs' => h _ ⟨⟨?_, hn', fun b o e => ?_, x.toInCall.fresh⟩, fun k c hc => ?_, x.apart, x.above, x.low⟩) (by rw [hk]; rfl)
  · obtain ⟨h₁, tk, rfl⟩ := x.toInCall.same
    exact ⟨h', _, rfl⟩
  · exact hs'.extBut b o (Nat.ne_of_lt (Nat.lt_of_lt_of_le (Heap.lt_size e) x.toInCall.fresh)) (x.toInCall.keep b o e)
  · exact (x.cell k c hc).sameBut hs' (x.ne (PySem.mem_of_lookup hc))
theorem stCD {n : Str} {c : Addr} {v : Value} {Q : Unit → Shared → Prop} (x : InD cc s₀ env.locals m env.cells cm s) (hk : env.scope.kind = .function) (hl : env.kindOf n = some .cell)
    (hc : env.cells.lookup n = some c) (hn : n ≠ "__class__")
    (h : ∀ s', InD cc s₀ env.locals m env.cells (fun y => if y = n then some v else cm y) s' → Q () s') : wpAny M A (storeName env n v) Q E s := by
  have hLc : env.locals < c := (x.above n c (PySem.mem_of_lookup hc)).resolve_right fun z => hn z.1
  refine wpAny_storeName_cell hk hl hc (x.cell n c hc) fun h' hc' hs' => h _ ⟨⟨?_, x.toInCall.ns.sameBut hs' (Nat.ne_of_lt hLc), fun b o e => ?_, x.toInCall.fresh⟩, fun k c' hk' => ?_, x.apart, x.above, x.low⟩
  · obtain ⟨h₁, tk, rfl⟩ := x.toInCall.same
    exact ⟨h', _, rfl⟩
  · exact hs'.extBut b o (Nat.ne_of_lt (Nat.lt_trans (Nat.lt_of_lt_of_le (Heap.lt_size e) x.toInCall.fresh) hLc)) (x.toInCall.keep b o e)
  · by_cases hkn : k = n
    · subst hkn
      rw [hc] at hk'; cases hk'
      simpa using hc'
    · rw [if_neg hkn]
      exact (x.cell k c' hk').sameBut hs' fun e => hkn (name_of_addr x.apart (PySem.mem_of_lookup hk') (e ▸ PySem.mem_of_lookup hc))
theorem bindParamsD (f : Str × Value → PUnit → Sem (ForInStep PUnit)) (hf : ∀ n v u, f (n, v) u = (do storeName env n v; pure (.yield ⟨⟩))) (hk : env.scope.kind = .function) :
    ∀ (binds : List (Str × Value)) (m cm : Str → Option Value) (s : Shared) (Q : PUnit → Shared → Prop), InD cc s₀ env.locals m env.cells cm s →
      (∀ x ∈ binds, env.kindOf x.1 = some .local ∨ (env.kindOf x.1 = some .cell ∧ (env.cells.lookup x.1).isSome = true)) → (∀ x ∈ binds, x.1 ≠ "__class__") →
      (∀ s', InD cc s₀ env.locals (bindL env.kindOf binds m) env.cells (bindC env.kindOf binds cm) s' → Q ⟨⟩ s') → wpAny M A (forIn binds ⟨⟩ f) Q E s
  | [], m, cm, s, Q, x, _, _, h => by rw [List.forIn_nil]; exact wpAny_pure (h s x)
  | (n, v) :: r, m, cm, s, Q, x, hkind, hcl, h => by
    rw [List.forIn_cons, hf]
    have hr : ∀ y ∈ r, env.kindOf y.1 = some .local ∨ (env.kindOf y.1 = some .cell ∧ (env.cells.lookup y.1).isSome = true) := fun y hy => hkind y (List.mem_cons_of_mem _ hy)
    have hr2 : ∀ y ∈ r, y.1 ≠ "__class__" := fun y hy => hcl y (List.mem_cons_of_mem _ hy)
    rcases hkind (n, v) List.mem_cons_self with hl | ⟨hl, hc⟩
    · refine wpAny_bind (wpAny_bind (stLD x hk hl fun s' x' => wpAny_pure (bindParamsD f hf hk r _ _ s' Q x' hr hr2 fun s'' x'' => h s'' ?_)))
      unfold bindL bindC; rw [if_pos hl, if_pos hl]; exact x''
    · obtain ⟨c, hc⟩ := Option.isSome_iff_exists.mp hc
      have hnl : ¬ env.kindOf n = some .local := by rw [hl]; decide
      refine wpAny_bind (wpAny_bind (stCD x hk hl hc (hcl (n, v) List.mem_cons_self) fun s' x' => wpAny_pure (bindParamsD f hf hk r _ _ s' Q x' hr hr2 fun s'' x'' => h s'' ?_)))
      unfold bindL bindC; rw [if_neg hnl, if_neg hnl]; exact x''
theorem newEnvD {scope : Scope} {globals : Addr} {binds : List (Str × Value)} {qual : Str} {func : Option Addr} {code : Value} {builtins : Addr} {vc : Option Value} {Q : Env → Shared → Prop}
    (hk : scope.kind = .function) (hcc : s.heap.IsCell cc vc) (hno : ∀ y ∈ scope.names, y.2 = .cell → y.1 ≠ "__class__")
    (hkind : ∀ x ∈ binds, scope.names.lookup x.1 = some .local ∨ (scope.names.lookup x.1 = some .cell ∧ ((cellsFrom (s.heap.objs.size + 1) scope.names [("__class__", cc)]).lookup x.1).isSome = true))
    (hbn : ∀ x ∈ binds, x.1 ≠ "__class__")
    (hQ : ∀ env, env = newEnv scope s.heap.objs.size globals (cellsFrom (s.heap.objs.size + 1) scope.names [("__class__", cc)]) qual func code none builtins →
      ∀ s', InD cc s env.locals (bindL env.kindOf binds fun _ => none) env.cells (bindC env.kindOf binds fun y => if y = "__class__" then vc else none) s' → Q env s') :
    wpAny M A (newFunctionEnv scope globals [("__class__", cc)] binds qual func code none builtins) Q E s := by
  simp only [newFunctionEnv, Option.isSome_none, Bool.false_eq_true, if_false]
  refine wpAny_bind (wpAny_alloc ?_)
  refine wpAny_bind (wpAny_layCells _ (fun name kind cells => by cases hkc : kind == NameKind.cell <;> simp [hkc]) _ _ _ _ ?_)
  have ok := cellsFrom_ok scope.names (s.heap.push { cls := .type "frame", data := .dict #[] }) (s.heap.objs.size + 1) [] ⟨fun _ _ hm => (nomatch hm), List.Pairwise.nil⟩ (by rw [Heap.size_push]; exact Nat.le_refl _)
  rw [Heap.size_push] at ok
  rw [show ({ s with heap := s.heap.push { cls := .type "frame", data := .dict #[] } } : Shared).heap.objs.size = s.heap.objs.size + 1 from Heap.size_push ..]
  have hlow : cc < s.heap.objs.size := by obtain ⟨o, ho, _⟩ := hcc; exact Heap.lt_size ho
  refine wpAny_bind (bindParamsD (cc := cc) (s₀ := s) (env := newEnv scope s.heap.objs.size globals (cellsFrom (s.heap.objs.size + 1) scope.names [("__class__", cc)]) qual func code none builtins)
    _ (fun _ _ _ => rfl) hk binds (fun _ => none) (fun y => if y = "__class__" then vc else none) _ _
    ⟨⟨⟨_, _, rfl⟩, (Heap.Ns.new s.heap (.type "frame")).keeps (pushCells_keeps _ _), fun b o e => pushCells_keeps _ _ b o (Heap.get?_push_of_some _ e), Nat.le_refl _⟩,
      fun n c hc => ?_, ?_, fun n c hm => ?_, hlow⟩
    hkind hbn fun s' x => wpAny_pure (hQ _ rfl s' x))
  · have hm : (n, c) ∈ cellsFrom (s.heap.objs.size + 1) scope.names [("__class__", cc)] := PySem.mem_of_lookup hc
    rw [cellsFrom_app] at hm
    rcases List.mem_append.mp hm with hm | hm
    · have hn : n ≠ "__class__" := (mem_cellsFrom hm).elim (fun z => nomatch z) fun z => hno _ z rfl
      rw [if_neg hn]
      exact (ok.empty n c hm).1
    · obtain ⟨rfl, rfl⟩ := Prod.mk.inj (List.mem_singleton.mp hm)
      rw [if_pos rfl]
      exact (hcc.keeps fun b o e => Heap.get?_push_of_some _ e).keeps (pushCells_keeps _ _)
  · show (cellsFrom (s.heap.objs.size + 1) scope.names [("__class__", cc)]).Pairwise _
    rw [cellsFrom_app]
    refine List.pairwise_append.mpr ⟨ok.apart, List.pairwise_singleton _ _, fun x hx y hy => ?_⟩
    rw [List.mem_singleton.mp hy]
    have := (ok.empty x.1 x.2 hx).2
    show x.2 ≠ cc
    exact Nat.ne_of_gt (Nat.lt_of_lt_of_le hlow (Nat.le_of_succ_le this))
  · have hm : (n, c) ∈ cellsFrom (s.heap.objs.size + 1) scope.names [("__class__", cc)] := hm
    rw [cellsFrom_app] at hm
    rcases List.mem_append.mp hm with hm | hm
    · exact .inl (ok.empty n c hm).2
    · obtain ⟨rfl, rfl⟩ := Prod.mk.inj (List.mem_singleton.mp hm)
      exact .inr ⟨rfl, rfl⟩
end
/-! ### the def -/
structure FunX (P : Program) (K : PySem.W.Frag) (x qual : Str) (params : Arguments) (body : List Stmt) (scope : Scope) (D f : Addr) : Prop where
  ex : ∃ (oc : Value) (od : Option Addr) (kV doc pm : Value) (an : Option Addr) (cda cc : Addr) (ct : Value) (osl : Array (Option Value)) (ccl : Value) (cdd : Option Addr) (vs : Array Value) (ccs : Array (Option Value)) (file : Str) (tf : Tok) (cl : Value) (cld : Option Addr) (csl : Array (Option Value)),
    K.lookup f = some ⟨oc, od, .func (PySem.W.fnX x qual params body scope [("__class__", cc)] .none kV doc pm an (.ref cda) ct), osl⟩ ∧ PySem.W.codeIn K (.ref cda) qual = true ∧
    K.lookup cda = some ⟨ccl, cdd, .fields vs, ccs⟩ ∧ vs[2]? = some (.str file tf) ∧ (P.main.file == file) = true ∧ K.lookup cc = some ⟨cl, cld, .cell (some (.ref D)), csl⟩
/-- what the class's method above is -/
structure SupD (P : Program) (K : PySem.W.Frag) (D : Addr) (m : Str) (f2 : Addr) : Prop where
  cls : ∃ cd, PySem.W.clsIn K D = some cd
  sub : PySem.W.mroIn K D (.ref D) = some true
  nx : PySem.W.ks_superIn K D D m = some (some (.ref f2))
  ty : PySem.W.typeIn K (.ref f2) = some (.type "function")
  fi : PySem.W.fnIn K f2 = true
  opq : PySem.W.nsIn K cStatics "thirdparty.any" = some none
  top : (P.main.scope.names.lookup ("super" : Str)).isSome = false
structure SupScope (N ps : List Str) (p0 : Str) (sc : Scope) : Prop where
  kind : sc.kind = .function
  co : sc.isCoroutine = false
  gen : sc.isGenerator = false
  nd : N.Nodup
  pre : N.take ps.length = ps
  par : ∀ x ∈ ps, sc.names.lookup x = some .local ∨ sc.names.lookup x = some .cell
  cl : sc.names.lookup ("__class__" : Str) = some .free
  su : sc.names.lookup ("super" : Str) = some .globalImplicit
  fr : ∀ y ∈ sc.names, y.2 = .free → y.1 = "__class__"
  nocl : ∀ y ∈ sc.names, y.2 = .cell → y.1 ≠ "__class__"
  pcl : ∀ x ∈ ps, x ≠ "__class__"
  hd : ps.head? = some p0
  slf : sc.names.lookup p0 = some .local
abbrev envS (qual : Str) (scope : Scope) (L f cda cc : Addr) : Env := PySem.W.envX qual scope L f (.ref cda) (cellsFrom (L + 1) scope.names [("__class__", cc)])
/-- the context of its body, at its entry; nothing is raised -/
def supX (P : Program) (w : World) (K : PySem.W.Frag) (mg : Str → Option Value) (base : Heap) (N : List Str) (qual : Str) (scope : Scope) (f cda cc : Addr) (A : Around) (outer : List Env) (s : Shared) (H : Hp) : Cx where
  prog := P
  w := w
  K := K
  mg := mg
  base := base
  A := A.deeper (envS qual scope s.heap.objs.size f cda cc)
  N := N
  s_0 := s
  H_0 := H
  env := envS qual scope s.heap.objs.size f cda cc
  outer := outer
  stack := envS qual scope s.heap.objs.size f cda cc :: outer
  ex := []
  calm := true
  fn := fun y => !(y == "__class__")
  pn := []
  xe := fun _ _ => False
section
variable {P : Program} {w : World} {K : PySem.W.Frag} {mg : Str → Option Value} {base : Heap} {N ps : List Str} {p0 qual : Str} {scope : Scope} {f cda cc : Addr} {A : Around} {outer : List Env} {s s1 : Shared} {H : Hp} {us : List Value} {vs : List V} {vc : Option Value}
theorem cell_hasS {sc : Scope} {n : Nat} {x : Str} {acc : List (Str × Addr)} (h : sc.names.lookup x = some .cell) : ∃ c, (cellsFrom n sc.names acc).lookup x = some c :=
  Option.isSome_iff_exists.mp (PySem.W.cellsFrom_some sc.names n acc (.inl h))
theorem class_has {sc : Scope} {n : Nat} (h : ∀ y ∈ sc.names, y.2 = .cell → y.1 ≠ "__class__") : (cellsFrom n sc.names [("__class__", cc)]).lookup ("__class__" : Str) = some cc := by
  rw [cellsFrom_app, List.lookup_append]
  have : (cellsFrom n sc.names []).lookup ("__class__" : Str) = none := by
    cases e : (cellsFrom n sc.names []).lookup ("__class__" : Str) with
    | none => rfl
    | some c => exact absurd rfl ((mem_cellsFrom (PySem.mem_of_lookup e)).elim (fun z => nomatch z) fun z => h _ z rfl)
  rw [this]
  rfl
theorem inv_sup (S : SupScope N ps p0 scope) (hd : A.handled = none) (e0 : Env0 P w K mg base A outer s H) (hl : vs.length = ps.length) (r : Vals vs us) (hc : H cc = none)
    (x : InD cc s s.heap.objs.size (bindL (envS qual scope s.heap.objs.size f cda cc).kindOf (ps.zip us) fun _ => none) (cellsFrom (s.heap.objs.size + 1) scope.names [("__class__", cc)]) (bindC (envS qual scope s.heap.objs.size f cda cc).kindOf (ps.zip us) fun y => if y = "__class__" then vc else none) s1) :
    Inv (supX P w K mg base N qual scope f cda cc A outer s H) [] (L2.start N vs) H s1 := by
  have hpl : ps.length ≤ N.length := by have := congrArg List.length S.pre; rw [List.length_take] at this; omega
  obtain ⟨h1, tk, rfl, hk⟩ := x.toInCall.done
  have noA : ∀ b : Addr, b ∉ (supX P w K mg base N qual scope f cda cc A outer s H).ex := fun b z => absurd (show b ∈ ([] : List Addr) from z) (by simp)
  refine ⟨⟨e0.mod, S.kind, rfl, rfl, Nat.le_refl _, fun y z c h1 h2 => ?_, fun y hy => ?_, fun y c hy h => ?_, fun _ => hd, Around.frames_deeper e0.frames, .inr ⟨rfl, rfl⟩, fun b z => absurd z (noA b), e0.bs, e0.bsz, fun b _ _ => noA b, fun b z => absurd z (noA b), e0.funs, e0.frf⟩,
    rfl, e0.bare, Un.kept hk, ⟨_, x.toInCall.ns, fun i y v h1 h2 h3 => ?_⟩, fun y c h => ⟨_, x.cell y c h⟩, e0.hok.fresh (Nat.le_refl _), fun y c h => ?_, fun p hp => absurd (show p ∈ ([] : List (Addr × Obj)) from hp) (by simp), e0.hok.kept hk, ?_⟩
  · exact name_of_addr x.apart (PySem.mem_of_lookup h1) (PySem.mem_of_lookup h2)
  · have hy : scope.names.lookup y = some .cell ∨ scope.names.lookup y = some .free := hy
    rcases hy with hy | hy
    · exact cell_hasS hy
    · have := S.fr _ (PySem.mem_of_lookup hy) rfl
      dsimp only at this
      subst this
      exact ⟨cc, class_has S.nocl⟩
  · have hy : (!(y == ("__class__" : Str))) = true := hy
    have hy2 : y ≠ "__class__" := fun z => by rw [z] at hy; simp at hy
    exact Nat.le_of_lt ((x.above y c (PySem.mem_of_lookup h)).resolve_right fun z => hy2 z.1)
  · have hi : i < vs.length := by
      unfold L2.start at h2
      by_cases hi : i < vs.length
      · exact hi
      · rw [List.getElem?_append_right (by simpa using hi)] at h2
        rw [List.getElem?_replicate] at h2
        split at h2 <;> cases h2
    have ha : vs[i]? = some v := by
      unfold L2.start at h2
      rw [List.getElem?_append_left (by simpa using hi), List.getElem?_map] at h2
      cases e : vs[i]? with
      | none => rw [e] at h2; cases h2
      | some a => rw [e] at h2; cases h2; rfl
    obtain ⟨u, hu, rv⟩ := r.get ha
    have hp : ps[i]? = some y := by
      rw [← S.pre, List.getElem?_take_of_lt (by omega)]; exact h1
    have ndP : ps.Nodup := by rw [← S.pre]; exact S.nd.sublist (List.take_sublist _ _)
    refine ⟨u, rv, ?_⟩
    rcases S.par y (List.mem_of_getElem? hp) with k | k
    · exact .inl ⟨k, bindL_get ndP hp hu k⟩
    · obtain ⟨c, e⟩ := cell_hasS (n := s.heap.objs.size + 1) (acc := [("__class__", cc)]) k
      refine .inr ⟨.inl k, c, e, ?_⟩
      have q := x.cell y c e
      rw [bindC_get ndP hp hu (by show scope.names.lookup y ≠ _; rw [k]; decide)] at q
      exact q
  · rcases x.above y c (PySem.mem_of_lookup h) with h | ⟨_, rfl⟩
    · exact e0.hok.fresh (Nat.le_of_lt h)
    · exact hc
  · unfold L2.start
    show _ = N.length
    rw [List.length_append, List.length_map, List.length_replicate]
    omega
end
/-- an untracked object is laid -/
theorem Inv.kept1 {X : Cx} {pins : List (Addr × Obj)} {σ : L2.St} {H : Hp} {s : Shared} {h' : Heap} (I : Inv X pins σ H s) (k : ∀ b o, s.heap.get? b = some o → h'.get? b = some o) (t' : Nat) : Inv X pins σ H { s with heap := h', toks := t' } :=
  I.un (Un.kept k) (I.hok.kept k)
/-- THE RULE -/
theorem fnR_sup {P : Program} {w : World} {K : PySem.W.Frag} {mg : Str → Option Value} {base : Heap} {N ps : List Str} {x qual m : Str} {params : Arguments} {body rest : List Stmt} {scope : Scope} {D f f2 : Addr} {k : Nat} {sp sp2 : Sp} {ar : Arg} {p0 p1 apos pos epos : Pos} {e : Expr} {es : List Expr}
    (F : FunX P K x qual params body scope D f) (hbd : body = .Expr (.Call (.Attribute (.Call (.Name "super" p0) [] [] p1) m apos) (e :: es) [] pos) epos :: rest) (Sd : SupD P K D m f2) (F2 : FnR P w K mg base CX0 k f2 sp2) (hsup : mg "super" = none)
    (hp : (params.posonlyargs ++ params.args).head? = some ar) (S : SupScope N ps ar.arg scope) (hm : (m == ("__class__" : Str)) = false)
    (hb : ∀ (kV doc pm : Value) (an : Option Addr) (cdv ct : Value) (cc : Addr) (us : List Value), us.length = ps.length → bindArgs (PySem.W.fnX x qual params body scope [("__class__", cc)] .none kV doc pm an cdv ct) ⟨us, []⟩ = pure (ps.zip us))
    (len : ∀ vs H Q E, sp vs H Q E → vs.length = ps.length)
    (hi : ∀ env : Env, env.scope = scope → interactive env = false) (hs : ∀ env : Env, env.scope = scope → swapsWith (.Call (.Attribute (.Call (.Name "super" p0) [] [] p1) m apos) (e :: es) [] pos) none epos.line env = pure false)
    (hst : ∀ env : Env, starEach (e :: es) env = (false, eval e env) :: starEach es env) (hpl : ∀ env : Env, (backTo pos (starEach es env)).any (·.1) = false)
    {pl : Env → Sem Bool} (he : ∀ env : Env, env.scope = scope → eval (.Call (.Attribute (.Call (.Name "super" p0) [] [] p1) m apos) (e :: es) [] pos) env = (do
      let ov ← attributeBase (.Call (.Name "super" p0) [] [] p1) m env (eval (.Call (.Name "super" p0) [] [] p1) env)
      standAt apos.atName
      let (f, first) ← holding [ov] (getMethod ov m (pl env))
      callWith pos f first (backTo pos (starEach (e :: es) env)) []))
    (hbody : ∀ (cda cc : Addr) (A : Around) (outer : List Env) (s : Shared) (H : Hp) (vs : List V) (Q : VK) (E : XK), Room k (A.deeper (envS qual scope s.heap.objs.size f cda cc)) → sp vs H Q E →
      ∃ a dx fs tA t, vs[0]? = some (V.ref a) ∧ H a = some (.ins D dx fs) ∧ PA (supX P w K mg base N qual scope f cda cc A outer s H) (e :: es) tA ∧ PSs (supX P w K mg base N qual scope f cda cc A outer s H) rest t ∧
        tA (L2.start N vs) H fun xs H1 => sp2 (.ref a :: xs) H1 (fun _ H2 => t ⟨fun _ H' => Q .non H', Q, fun _ _ => False, fun _ _ => False⟩ (L2.start N vs) H2) E0) :
    FnR P w K mg base CX0 (k + 1) f sp := by
  intro A outer s H us vs Q E hr e0 r hsp
  obtain ⟨oc, od, kV, doc, pm, an, cda, cc, ct, osl, ccl, cdd, vs2, ccs, file, tf, cl, cld, csl, lk, hcd, lkc, hv2, hfile, lkcc⟩ := F.ex
  have hl := len _ _ _ _ hsp
  have KX : K.In s.heap := e0.mod.kin.keeps fun b o e => (e0.bs b o e).1
  have lim : s.heap.NoLimit := e0.mod.nolimit.keeps fun b o e => (e0.bs b o e).1
  have hcell : s.heap.IsCell cc (some (.ref D)) := ⟨_, KX _ _ lkcc, rfl⟩
  have hHcc : H cc = none := (e0.bs cc _ (e0.mod.kin _ _ lkcc)).2
  have hkind : ∀ y ∈ ps.zip us, scope.names.lookup y.1 = some .local ∨ (scope.names.lookup y.1 = some .cell ∧ ((cellsFrom (s.heap.objs.size + 1) scope.names [("__class__", cc)]).lookup y.1).isSome = true) := fun ⟨n, v⟩ hy => by
    rcases S.par n (List.of_mem_zip hy).1 with q | q
    · exact .inl q
    · exact .inr ⟨q, PySem.W.cellsFrom_some _ _ _ (.inl q)⟩
  refine codeAny_call_function hr.depth (KX _ _ lk) rfl S.co S.gen rfl (PySem.W.codeRec_of KX hcd) ?_
  rw [hb kV doc pm an _ ct cc us (by rw [← r.length]; exact hl)]
  refine wpAny_pure (newEnvD S.kind hcell S.nocl hkind (fun y hy => S.pcl _ (List.of_mem_zip hy).1) fun env hee s1 x => ?_)
  subst hee
  refine ⟨lim.keeps x.toInCall.keep, PySem.ks_codeAny_funcAt ?_⟩
  obtain ⟨a, dx, fs, tA, t, hv0, ha, hA, ht, hq⟩ := hbody cda cc A outer s H vs Q E (hr.deeper _) hsp
  have I : Inv (supX P w K mg base N qual scope f cda cc A outer s H) [] (L2.start N vs) H s1 := inv_sup S hr.hd e0 hl r hHcc x
  subst hbd
  let X := supX P w K mg base N qual scope f cda cc A outer s H
  have I : Inv X [] (L2.start N vs) H s1 := I
  refine PySem.ks_wpAt_execs_cons (PySem.ks_wpAt_Expr_any (PySem.ks_wpAt_MethodCall (pl := pl _) ?_ (he _ rfl)) (hi _ rfl) (hs _ rfl))
  have KI : K.In s1.heap := I.kIn
  obtain ⟨cdD, hcdD⟩ := Sd.cls
  obtain ⟨oD, hD1, hD2⟩ : ∃ oD, s1.heap.get? D = some oD ∧ oD.data = .cls cdD := by
    have h := hcdD
    unfold PySem.W.clsIn at h
    split at h
    · rename_i c d cd' sl ho
      cases h
      exact ⟨_, KI _ _ ho, rfl⟩
    · cases h
  obtain ⟨mA, O, _, _, _, _⟩ := ins_get I.hok ha
  obtain ⟨od', J, _⟩ := O.look
  have hxD : a ≠ D := fun z => by
    have h1 := J.at_
    rw [z, hD1] at h1
    have h2 := J.no
    rw [← Option.some.inj h1] at h2
    unfold PySem.W.notCls at h2
    rw [hD2] at h2
    exact Bool.noConfusion h2
  have hself : (L2.start N vs)[0]? = some (some (V.ref a)) := by
    unfold L2.start
    have h0 : 0 < vs.length := (List.getElem?_eq_some_iff.mp hv0).1
    rw [List.getElem?_append_left (by simpa using h0), List.getElem?_map, hv0]
    rfl
  have hN0 : N[0]? = some ar.arg := by
    have h := S.hd
    rw [← S.pre, List.head?_eq_getElem?] at h
    rw [List.getElem?_take] at h
    split at h
    · exact h
    · cases h
  obtain ⟨mm, hns, hloc⟩ := I.loc
  obtain ⟨u0, ru0, hu0⟩ := hloc 0 ar.arg (V.ref a) hN0 hself (.inl S.slf)
  obtain rfl : u0 = Value.ref a := ru0
  have hma : mm ar.arg = some (.ref a) := by
    rcases hu0 with ⟨_, h⟩ | ⟨h, _⟩
    · exact h
    · have hk : scope.names.lookup ar.arg = some .cell ∨ scope.names.lookup ar.arg = some .free := h
      rw [S.slf] at hk
      rcases hk with hk | hk <;> cases hk
  refine PySem.ks_wpAt_super_base (f := f) (cc := cda) (vs := vs2) (file := file) (tf := tf) S.su S.cl hm rfl (KI _ _ lk) rfl hp rfl (KI _ _ lkc) rfl hv2 hfile Sd.top ?_
  obtain ⟨mb, hb1, hb2⟩ := I.mod.blt
  refine PySem.W.ks_loadName_global S.kind S.su (Calls.loadGlobal_builtin (mg := mg) (mb := mb) (e0.mod.glob.keeps I.bk) hsup (hb1.keeps I.bk) ((hb2 _ (by decide +kernel)).trans (show bootBuiltins "super" = some (.type "super") by first | boot_by_name | rfl | kernel_rfl)) ⟨rfl, ?_⟩)
  refine wpAny_loadName_free S.kind S.cl (class_has S.nocl) ⟨_, KI _ _ lkcc, rfl⟩ ?_
  refine wpAny_loadName_local S.kind S.slf hns hma ?_
  refine PySem.ks_wpAny_isType_cls hD1 hD2 ⟨rfl, ?_⟩
  obtain ⟨hh, gg, dd, tt, oss⟩ := s1
  refine PySem.ks_wpAny_call_super hD1 hD2 J.at_ J.cls (fun c z => ?_) (PySem.W.looks_mroIn KI Sd.sub) (fun h2 hso kp2 => ?_)
  · have h2 := J.no
    unfold PySem.W.notCls at h2
    rw [z] at h2
    exact Bool.noConfusion h2
  have I2 := Inv.kept1 I kp2 tt
  have KI2 : K.In h2 := I2.kIn
  obtain ⟨of, hof, hofc⟩ : ∃ of, h2.get? f2 = some of ∧ of.cls = .type "function" := by
    have ht' : (K.lookup f2).map (·.cls) = some (.type "function") := Sd.ty
    cases z : K.lookup f2 with
    | none => rw [z] at ht'; cases ht'
    | some of => rw [z] at ht'; exact ⟨of, KI2 _ _ z, Option.some.inj ht'⟩
  have hnx := Sd.nx
  unfold PySem.W.ks_superIn at hnx
  rw [hcdD] at hnx
  refine PySem.ks_wpAny_getMethod_super hso (PySem.W.looks_opaque KI2 Sd.opq) (l₀ := cdD.mro) (fun A Q E s k q => wpAny_bind ((PySem.W.looks_clsIn KI2 hcdD) A _ E s k (wpAny_pure q))) rfl KI2 hnx hof hofc hxD hm ?_
  have hq0 : (h2.push (PySem.W.methodObj (.ref f2) (.ref a))).get? h2.objs.size = some (PySem.W.methodObj (.ref f2) (.ref a)) := Heap.get?_push_at rfl rfl
  have hHq : H h2.objs.size = none := I2.hok.fresh (Nat.le_refl _)
  have I3 := Inv.kept1 (h' := h2.push (PySem.W.methodObj (.ref f2) (.ref a))) I2 (fun b o e => Heap.get?_push_of_some _ e) (tt + 1)
  have hqfs : h2.objs.size ∉ X.fs := I2.nofs (Nat.le_refl _)
  have hqL : h2.objs.size ≠ X.env.locals := Nat.ne_of_gt I2.lt
  have I4 : Inv X [(h2.objs.size, PySem.W.methodObj (.ref f2) (.ref a))] (L2.start N vs) H _ := I3.pins_of fun p hp => by
    rw [List.mem_singleton.mp hp]
    exact ⟨hq0, hHq, hqL, hqfs, fun v z => by cases z⟩
  show wpAny _ _ (callWith pos (.ref h2.objs.size) [] (backTo pos (starEach (e :: es) _)) []) _ _ _
  have hrun := hA.run pos _ _ _ _ _ I4 hq
  rw [hst] at hrun ⊢
  refine PySem.W.callWith_of (P := PySem.W.MethP K h2.objs.size f2 (.ref a)) (by show ((false || (backTo pos (starEach es _)).any (·.1)) || false) = false; rw [hpl]; rfl) (PySem.W.keeps_M Sd.fi) (PySem.Calls.evalArgs_plain ?_)
  refine wpAny_mono hrun (fun us2 s5 ⟨xs, H5, I5, r5, q5⟩ => ?_) fun _ _ z => z.elim
  have hq5 := (I5.pin (h2.objs.size, PySem.W.methodObj (.ref f2) (.ref a)) (List.mem_append_right _ List.mem_cons_self)).1
  refine ⟨⟨hq5, I5.kIn⟩, ?_⟩
  refine wpAny_call (PySem.W.method_call hq5 ?_)
  refine codeAny_mono (run_fnR (X := X) (us := .ref a :: us2) (vs := .ref a :: xs) F2 (hr.deeper _) pass0 I5 (.cons rfl r5) q5) fun r6 s6 h6 => ?_
  cases r6 with
  | error e6 => exact (show False from h6).elim
  | ok fl =>
    cases fl with
    | next => exact h6.elim
    | brk => exact h6.elim
    | cont => exact h6.elim
    | ret u6 =>
      obtain ⟨v6, H6, I6, _, q6⟩ := h6
      refine PySem.wpAt_of_wpAny (wpAny_mono (ht.run _ _ _ _ _ I6 q6) (fun fl s' h7 => ?_) fun _ _ z => z.elim)
      have fin : ∀ {pins : List (Addr × Obj)} {σ' : L2.St} {H' : Hp} {v : V} {u : Value}, Inv X pins σ' H' s' → L2.RelV v u → Q v H' → CE outer P w H s Q u s' :=
        fun {pins σ' H' v u} J rv q => ⟨v, H', J.os, J.bare, J.base, J.hok, rv, q⟩
      cases fl with
      | ret u =>
        obtain ⟨v, σ', H', J, rv, q⟩ := h7
        exact fin J rv q
      | next =>
        obtain ⟨σ', H', J, q⟩ := h7
        exact fin (v := V.non) (u := Value.none) J rfl q
      | brk =>
        obtain ⟨_, _, _, q⟩ := h7
        exact False.elim q
      | cont =>
        obtain ⟨_, _, _, q⟩ := h7
        exact False.elim q
end Yk

set_option maxHeartbeats 1000000
/-! A hook for programs with methods that begin by super().m(..). -/
namespace Hk
open PySem PySem.Spec PyProof.Rows L2 He
structure SupP where
  path : PySem.W.Frag → Addr
  cls : PySem.W.Frag → Addr
  above : PySem.W.Frag → Addr
  m : Str
  name : Str
  qual : Str
  params : Arguments
  body : List Stmt
  scope : Scope
def SupP.val (d : SupP) : FnW := some (d.name, d.qual, d.params, .stmts d.body, d.scope, mainGlobals, [("__class__", 0)], builtinsNs)
def seenX (K : PySem.W.Frag) (a : Addr) : FnW := match K.lookup a with
  | some o => (match o.data with
    | .func u => some (u.name, u.qualname, u.params, u.body, u.scope, u.globals, u.closure.map fun p => (p.1, 0), u.builtins)
    | _ => none)
  | none => none
def fileB (K : PySem.W.Frag) (file : Str) (v : Value) : Bool := match v with
  | .ref c => (match K.lookup c with
    | some oc => (match oc.data with
      | .fields vs => (match vs[2]? with
        | some (Value.str fl _) => file == fl
        | _ => false)
      | _ => false)
    | none => false)
  | _ => false
def cellB (K : PySem.W.Frag) (D : Addr) (l : List (Str × Addr)) : Bool := match l with
  | [(_, c)] => (match K.lookup c with
    | some oc => (match oc.data with
      | .cell (some (.ref E)) => D == E
      | _ => false)
    | none => false)
  | _ => false
def noneB (v : Value) : Bool := match v with
  | .none => true
  | _ => false
def goodX (file : Str) (K : PySem.W.Frag) (d : SupP) : Bool := (match K.lookup (d.path K) with
  | some o => (match o.data with
    | .func u => PySem.W.codeIn K u.code d.qual && (noneB u.defaults && (fileB K file u.code && cellB K (d.cls K) u.closure))
    | _ => false)
  | none => false) && ((PySem.W.clsIn K (d.cls K)).isSome && (decide (PySem.W.mroIn K (d.cls K) (.ref (d.cls K)) = some true) && (eqO (PySem.W.ks_superIn K (d.cls K) (d.cls K) d.m) (some (some (.ref (d.above K)))) &&
    (PySem.W.isFn K (.ref (d.above K)) && (PySem.W.fnIn K (d.above K) && eqO (PySem.W.nsIn K cStatics "thirdparty.any") (some none))))))
theorem file_ok {K : PySem.W.Frag} {file : Str} {v : Value} (h : fileB K file v = true) : ∃ c ccl cdd vs ccs fl tf, v = .ref c ∧ K.lookup c = some ⟨ccl, cdd, .fields vs, ccs⟩ ∧ vs[2]? = some (.str fl tf) ∧ (file == fl) = true := by
  unfold fileB at h
  cases v with
  | ref c =>
    dsimp only at h
    cases q : K.lookup c with
    | none => simp only [q] at h; cases h
    | some oc =>
      simp only [q] at h
      obtain ⟨c1, c2, dt, c3⟩ := oc
      cases dt with
      | fields vs =>
        dsimp only at h
        cases q2 : vs[2]? with
        | none => rw [q2] at h; cases h
        | some v =>
          rw [q2] at h
          cases v with
          | str fl tf => exact ⟨c, c1, c2, vs, c3, fl, tf, rfl, q, q2, h⟩
          | _ => cases h
      | _ => dsimp only at h; cases h
  | _ => cases h
theorem cell_ok {K : PySem.W.Frag} {D : Addr} {l : List (Str × Addr)} (h : cellB K D l = true) : ∃ n c cl cld csl, l = [(n, c)] ∧ K.lookup c = some ⟨cl, cld, .cell (some (.ref D)), csl⟩ := by
  unfold cellB at h
  match l, h with
  | [(n, c)], h =>
    dsimp only at h
    cases q : K.lookup c with
    | none => simp only [q] at h; cases h
    | some oc =>
      simp only [q] at h
      obtain ⟨c1, c2, dt, c3⟩ := oc
      cases dt with
      | cell v =>
        dsimp only at h
        cases v with
        | none => cases h
        | some v =>
          cases v with
          | ref E =>
            dsimp only at h
            rw [beq_iff_eq.mp h]
            exact ⟨n, c, c1, c2, c3, rfl, q⟩
          | _ => cases h
      | _ => dsimp only at h; cases h
theorem sup_of {P : Program} {file : Str} {K : PySem.W.Frag} {d : SupP} (hf : P.main.file = file) (ht : (P.main.scope.names.lookup ("super" : Str)).isSome = false) (e : seenX K (d.path K) = d.val) (c : goodX file K d = true) :
    Yk.FunX P K d.name d.qual d.params d.body d.scope (d.cls K) (d.path K) ∧ Yk.SupD P K (d.cls K) d.m (d.above K) := by
  unfold goodX at c
  obtain ⟨c0, c⟩ := Bool.and_eq_true_iff.mp c
  obtain ⟨c1, c⟩ := Bool.and_eq_true_iff.mp c
  obtain ⟨c2, c⟩ := Bool.and_eq_true_iff.mp c
  obtain ⟨c3, c⟩ := Bool.and_eq_true_iff.mp c
  obtain ⟨c4, c⟩ := Bool.and_eq_true_iff.mp c
  obtain ⟨c5, c6⟩ := Bool.and_eq_true_iff.mp c
  refine ⟨?_, ⟨Option.isSome_iff_exists.mp c1, of_decide_eq_true c2, eqO_ok c3, beq_iff_eq.mp c4, c5, eqO_ok c6, ht⟩⟩
  unfold seenX at e
  generalize d.path K = a at *
  cases q : K.lookup a with
  | none => simp only [q] at c0; cases c0
  | some o =>
    simp only [q] at c0 e
    obtain ⟨oc, od, dt, osl⟩ := o
    cases dt with
    | func fd =>
      dsimp only at c0 e
      obtain ⟨k1, k⟩ := Bool.and_eq_true_iff.mp c0
      obtain ⟨k2, k⟩ := Bool.and_eq_true_iff.mp k
      obtain ⟨k3, k4⟩ := Bool.and_eq_true_iff.mp k
      obtain ⟨m1, m2, m3, m4, m5, m6, m7, m8, m9, m10, m11, m12, m13, m14, m15⟩ := fd
      unfold SupP.val at e
      dsimp only at e k1 k2 k3 k4
      injection e with e
      injection e with e1 e; injection e with e2 e; injection e with e3 e; injection e with e4 e; injection e with e5 e; injection e with e6 e; injection e with e7 e8
      obtain ⟨n, cc, cl, cld, csl, rfl, lcc⟩ := cell_ok k4
      obtain ⟨cda, ccl, cdd, vs, ccs, fl, tf, rfl, lcd, hv, hfl⟩ := file_ok k3
      have en : n = "__class__" := by
        have := (List.cons.inj e7).1
        exact (Prod.mk.inj this).1
      subst e1 e2 e3 e4 e5 e6 e8 en
      have e9 : m8 = .none := by
        cases m8 with
        | none => rfl
        | _ => cases k2
      subst e9
      exact ⟨oc, od, m9, m10, m11, m12, cda, cc, m14, osl, ccl, cdd, vs, ccs, fl, tf, cl, cld, csl, q, k1, lcd, hv, by rw [hf]; exact hfl, lcc⟩
    | _ => dsimp only at c0; cases c0
def obGS (as : List Addr) (fa : List Fa) (fn : List DefP) (ex : PySem.W.Frag → Bool) (sf : List SupP) (file : Str) (g : Addr → Option Obj) : Al × Al := (look as fa fn ex (frG g as), (sf.all fun d => goodX file (frG g as) d, sf.map fun d => seenX (frG g as) (d.path (frG g as))))
def dueS (fn : List DefP) (sf : List SupP) : Al × Al := (due fn, (true, sf.map SupP.val))
structure SaysS (fa : List Fa) (fn : List DefP) (ex : PySem.W.Frag → Bool) (sf : List SupP) (file : Str) (K : PySem.W.Frag) : Prop where
  s : Says fa fn ex K
  sup : ∀ (P : Program), P.main.file = file → (P.main.scope.names.lookup ("super" : Str)).isSome = false → ∀ (i : Nat) (d : SupP), sf[i]? = some d → Yk.FunX P K d.name d.qual d.params d.body d.scope (d.cls K) (d.path K) ∧ Yk.SupD P K (d.cls K) d.m (d.above K)
theorem saysS_of {as : List Addr} {fa : List Fa} {fn : List DefP} {ex : PySem.W.Frag → Bool} {sf : List SupP} {file : Str} {g : Addr → Option Obj} (e : obGS as fa fn ex sf file g = dueS fn sf) : SaysS fa fn ex sf file (frG g as) := by
  have e1 : look as fa fn ex (frG g as) = due fn := congrArg (·.1) e
  have e2 : (sf.all fun d => goodX file (frG g as) d) = true := congrArg (·.2.1) e
  have e3 : (sf.map fun d => seenX (frG g as) (d.path (frG g as))) = sf.map SupP.val := congrArg (·.2.2) e
  refine ⟨says_of e1, fun P hf ht i d hd => sup_of hf ht ?_ (List.all_eq_true.mp e2 d (List.mem_of_getElem? hd))⟩
  have e4 := congrArg (fun l : List FnW => l[i]?) e3
  rw [List.getElem?_map, List.getElem?_map, hd] at e4
  exact Option.some.inj e4
def hookS (as : List Addr) (fa : List Fa) (fn : List DefP) (ex : PySem.W.Frag → Bool) (sf : List SupP) (file : Str) : PySem.W.Hook where
  α := Al × Al
  obs := fun s => obGS as fa fn ex sf file s.heap.get?
  val := fun _ => dueS fn sf
  says := fun _ h => ∃ K : PySem.W.Frag, K.In h ∧ SaysS fa fn ex sf file K
  of := fun _ _ e => ⟨_, frG_in, saysS_of e⟩
  keeps := fun _ _ _ ⟨K, hK, c⟩ k => ⟨K, PySem.W.Frag.In.keeps hK k, c⟩
theorem obGS_eq {as : List Addr} {fa : List Fa} {fn : List DefP} {ex : PySem.W.Frag → Bool} {sf : List SupP} {file : Str} {g : Addr → Option Obj} {s : Shared} (h : ∀ a, g a = s.heap.get? a) : obGS as fa fn ex sf file g = (hookS as fa fn ex sf file).obs s := by
  obtain rfl : g = s.heap.get? := funext h
  rfl
end Hk
namespace Hk
open PySem PySem.W PySem.Spec PyProof.Rows L2 He HandSHeadRun
theorem joinS {r : OpenRow} {q : Program} {M : Nat} {loose : List Str} {w : World} {as : List Addr} {fa : List Fa} {fn : List DefP} {ex : Frag → Bool} {sf : List SupP} {file : Str}
    (a : At r M w (fun x => obGS as fa fn ex sf file (getT x.2)) (dueS fn sf)) (b : At r M w (fun x => staticsOk (importedModules r.prog.main.body) x.1.heap x.2.abs.heap && laidKept x.1.heap x.2.abs.heap) true)
    (b2 : At r M w (fun x => namesBound r.prog x.2.abs.heap && gensDone x.2.abs) true)
    (c : At r M w (fun x => seenQ q loose (importedModules r.prog.main.body) (fun s => xlAt q [] s && recOk r.toRowW.records s) x.2.abs) (openGood q loose)) : RunEqI r q (hookS as fa fn ex sf file) (fun s => obGS as fa fn ex sf file (getT s)) M loose w := by
  obtain ⟨x, hx, e1⟩ := Option.map_eq_some_iff.mp a
  obtain ⟨x2, hx2, e2⟩ := Option.map_eq_some_iff.mp b
  obtain ⟨x3, hx3, e3⟩ := Option.map_eq_some_iff.mp b2
  obtain ⟨x4, hx4, e4⟩ := Option.map_eq_some_iff.mp c
  rw [hx] at hx2 hx3 hx4
  cases hx2
  cases hx3
  cases hx4
  obtain ⟨p1, p2⟩ := Bool.and_eq_true_iff.mp e2
  obtain ⟨p3, p4⟩ := Bool.and_eq_true_iff.mp e3
  refine Option.map_eq_some_iff.mpr ⟨x, hx, ?_⟩
  have l : looksF r.prog x.1.heap x.2.abs = true := by
    unfold looksF
    rw [p1, p2, p3, p4]
    rfl
  rw [l, e4]
  exact congrArg (fun z => (true, openGood q loose, z)) e1
end Hk
namespace Hk
open PySem PySem.Spec PyProof.Rows L2 He
/-- objects of the class x: their type, isinstance of it -/
def tyB (K : PySem.W.Frag) (x : Str) : Bool := eqO (PySem.W.findIn K (.ref (ga K x)) "__class__") (some (some (.builtin "object.__class__"))) && (eqO (PySem.W.specialIn K (.builtin "object.__class__") "__get__") (some (some (.builtin "getset_descriptor.__get__"))) &&
  (decide (PySem.W.takesIn K (.builtin "object.__class__") = some true) && (decide (PySem.W.mroIn K (ga K x) (.type "object") = some true) && decide (PySem.W.kitOne K (.ref (ga K x)) (.ref (ga K x)) = some true))))
theorem tyB_ok {K : PySem.W.Frag} {x : Str} (h : tyB K x = true) (c : Cls K (ga K x)) : Yk.Ty1 K (ga K x) ∧ PySem.W.kitOne K (.ref (ga K x)) (.ref (ga K x)) = some true := by
  obtain ⟨h1, h⟩ := Bool.and_eq_true_iff.mp h
  obtain ⟨h2, h⟩ := Bool.and_eq_true_iff.mp h
  obtain ⟨h3, h⟩ := Bool.and_eq_true_iff.mp h
  obtain ⟨h4, h5⟩ := Bool.and_eq_true_iff.mp h
  exact ⟨⟨fun H a dx fs e => TyX.base (TyOf.ins e c (eqO_ok h1) (eqO_ok h2) (of_decide_eq_true h3) (of_decide_eq_true h4))⟩, of_decide_eq_true h5⟩
theorem kbn_of {K : PySem.W.Frag} {x qual : Str} {params : Arguments} {body : List Stmt} {scope : Scope} {kws : List (Str × V)} {f : Addr} {fd : FuncData} {ps ks : List Str} {n : Nat} (F : FunD K x qual params body scope [] kws f fd)
    (h : ∀ (kV doc pm : Value) (an : Option Addr) (cdv ct : Value) (us ws : List Value), us.length = n → ws.length = ks.length → bindArgs (PySem.W.fnOf x qual params body scope .none kV doc pm an cdv ct) ⟨us, ks.zip ws⟩ = pure (ps.zip (us ++ ws))) : KBn K fd ps n ks (fun us ws => us ++ ws) (fun vs zs => vs ++ zs) := by
  obtain ⟨oc, od, dV, kV, doc, pm, an, cdv, ct, osl, rfl, lk, hcd, hD, _⟩ := F.ex
  rcases hD with ⟨_, rfl⟩ | ⟨e, _⟩
  · exact ⟨fun s us ws _ h1 h2 => BindsTo.of_eq (h kV doc pm an cdv ct us ws h1 h2), fun r1 r2 => r1.append r2⟩
  · exact absurd rfl e
end Hk

set_option maxHeartbeats 0
namespace YkHead
open PySem PySem.Spec PyProof.Rows L2 Yk
def dD (x : Str) (i : Nat) : Hk.DefP := ⟨fun K => He.ga K x, x, x, defArgs (top i), defBody (top i), defScope (top i), [], []⟩
def fn0 : List Hk.DefP := [dD "is_number" 3, dD "is_number_within" 4, dD "is_name" 5, dD "is_amount" 14, dD "is_small" 15, dD "plus" 16, dD "minus" 17, dD "_added" 18, dD "times" 19, dD "_product" 20, dD "compare" 21, dD "smallest" 22, dD "largest" 23, dD "is_manner" 25, dD "share" 26, dD "sender_of" 33, dD "_with_total" 34, dD "_check_place" 43, dD "_is_route" 44, dD "_are_buffers" 45]
def fn1 : List Hk.DefP := [dD "_is_size" 46, dD "_check_kind" 47, dD "_fits_kind" 48, dD "_check_promise" 49, dD "_is_manner_within" 50, dD "_law_bag" 52, dD "_law_draw" 53, dD "_law_of" 54, dD "_law_mixed" 55, dD "_law_amount" 56, dD "_law_sum" 57, dD "_law_rest" 58, dD "_law_scaled" 59, dD "_law_less" 60, dD "_law_min" 61, dD "_law_max" 62, dD "_law_same" 63, dD "_law_some" 64, dD "_law_part" 65, dD "_law_name" 66]
def fn2 : List Hk.DefP := [dD "_law_above" 67, dD "_law_wish" 68, dD "_law_flow" 69, dD "_law_made_flow" 70, dD "_law_share" 71, dD "_law_new" 72, dD "_law_class" 73, dD "_law_hears" 74, dD "_law_half" 75, dD "_law_searched" 76, dD "_law_due" 77, dD "_law_step" 78, dD "law" 79, ⟨fun K => He.ma K (He.ga K "Flow") "__init__", "__init__", "Flow.__init__", defArgs (inClass (top 42) 0), defBody (inClass (top 42) 0), defScope (inClass (top 42) 0), [], [("kind", .str "level"), ("size", .non), ("weight", .int 1), ("least", .glo "ZERO"), ("cap", .glo "TOP"), ("door", .non), ("way", .int 1), ("manner", .non), ("strange", .bl false)]⟩, ⟨fun K => He.ma K (He.ga K "Flow") "__eq__", "__eq__", "Flow.__eq__", defArgs (inClass (top 42) 7), defBody (inClass (top 42) 7), defScope (inClass (top 42) 7), [], []⟩, ⟨fun K => He.ma K (He.ga K "Sender") "__init__", "__init__", "Sender.__init__", defArgs (inClass (top 28) 0), defBody (inClass (top 28) 0), defScope (inClass (top 28) 0), [], []⟩, ⟨fun K => He.ma K (He.ga K "ProbeSender") "force", "force", "ProbeSender.force", defArgs (inClass (top 32) 5), defBody (inClass (top 32) 5), defScope (inClass (top 32) 5), [], []⟩, ⟨fun K => He.ma K (He.ga K "Flow") "channel_of", "channel_of", "Flow.channel_of", defArgs (inClass (top 42) 2), defBody (inClass (top 42) 2), defScope (inClass (top 42) 2), [], []⟩, ⟨fun K => He.ma K (He.ga K "Sender") "note_sent", "note_sent", "Sender.note_sent", defArgs (inClass (top 28) 2), defBody (inClass (top 28) 2), defScope (inClass (top 28) 2), [], []⟩, ⟨fun K => He.ma K (He.ga K "LevelSender") "note_sent", "note_sent", "Sender.note_sent", defArgs (inClass (top 28) 2), defBody (inClass (top 28) 2), defScope (inClass (top 28) 2), [], []⟩]
def fn3 : List Hk.DefP := [⟨fun K => He.ma K (He.ga K "EagerSender") "note_sent", "note_sent", "Sender.note_sent", defArgs (inClass (top 28) 2), defBody (inClass (top 28) 2), defScope (inClass (top 28) 2), [], []⟩, ⟨fun K => He.ma K (He.ga K "WindowSender") "note_sent", "note_sent", "Sender.note_sent", defArgs (inClass (top 28) 2), defBody (inClass (top 28) 2), defScope (inClass (top 28) 2), [], []⟩, ⟨fun K => He.ma K (He.ga K "ProbeSender") "note_sent", "note_sent", "Sender.note_sent", defArgs (inClass (top 28) 2), defBody (inClass (top 28) 2), defScope (inClass (top 28) 2), [], []⟩, ⟨fun K => He.ma K (He.ga K "Sender") "asks", "asks", "Sender.asks", defArgs (inClass (top 28) 3), defBody (inClass (top 28) 3), defScope (inClass (top 28) 3), [], []⟩, ⟨fun K => He.ma K (He.ga K "LevelSender") "asks", "asks", "Sender.asks", defArgs (inClass (top 28) 3), defBody (inClass (top 28) 3), defScope (inClass (top 28) 3), [], []⟩, ⟨fun K => He.ma K (He.ga K "EagerSender") "asks", "asks", "Sender.asks", defArgs (inClass (top 28) 3), defBody (inClass (top 28) 3), defScope (inClass (top 28) 3), [], []⟩, ⟨fun K => He.ma K (He.ga K "WindowSender") "asks", "asks", "Sender.asks", defArgs (inClass (top 28) 3), defBody (inClass (top 28) 3), defScope (inClass (top 28) 3), [], []⟩, ⟨fun K => He.ma K (He.ga K "Sender") "offer", "offer", "Sender.offer", defArgs (inClass (top 28) 1), defBody (inClass (top 28) 1), defScope (inClass (top 28) 1), [], []⟩, ⟨fun K => He.ma K (He.ga K "EagerSender") "offer", "offer", "EagerSender.offer", defArgs (inClass (top 30) 1), defBody (inClass (top 30) 1), defScope (inClass (top 30) 1), [], []⟩, ⟨fun K => He.ma K (He.ga K "LevelSender") "offer", "offer", "LevelSender.offer", defArgs (inClass (top 29) 1), defBody (inClass (top 29) 1), defScope (inClass (top 29) 1), [], []⟩, ⟨fun K => He.ma K (He.ga K "WindowSender") "offer", "offer", "WindowSender.offer", defArgs (inClass (top 31) 1), defBody (inClass (top 31) 1), defScope (inClass (top 31) 1), [], []⟩, ⟨fun K => He.ma K (He.ga K "ProbeSender") "asks", "asks", "ProbeSender.asks", defArgs (inClass (top 32) 2), defBody (inClass (top 32) 2), defScope (inClass (top 32) 2), [], []⟩, ⟨fun K => He.ma K (He.ga K "ProbeSender") "_end_try", "_end_try", "ProbeSender._end_try", defArgs (inClass (top 32) 6), defBody (inClass (top 32) 6), defScope (inClass (top 32) 6), [], []⟩, ⟨fun K => He.ma K (He.ga K "ProbeSender") "offer", "offer", "ProbeSender.offer", defArgs (inClass (top 32) 1), defBody (inClass (top 32) 1), defScope (inClass (top 32) 1), [], []⟩, ⟨fun K => He.ma K (He.ga K "Sender") "copy", "copy", "Sender.copy", defArgs (inClass (top 28) 4), defBody (inClass (top 28) 4), defScope (inClass (top 28) 4), [], []⟩, ⟨fun K => He.ma K (He.ga K "LevelSender") "copy", "copy", "LevelSender.copy", defArgs (inClass (top 29) 2), defBody (inClass (top 29) 2), defScope (inClass (top 29) 2), [], []⟩, ⟨fun K => He.ma K (He.ga K "EagerSender") "copy", "copy", "EagerSender.copy", defArgs (inClass (top 30) 2), defBody (inClass (top 30) 2), defScope (inClass (top 30) 2), [], []⟩, ⟨fun K => He.ma K (He.ga K "WindowSender") "copy", "copy", "WindowSender.copy", defArgs (inClass (top 31) 2), defBody (inClass (top 31) 2), defScope (inClass (top 31) 2), [], []⟩, ⟨fun K => He.ma K (He.ga K "ProbeSender") "copy", "copy", "ProbeSender.copy", defArgs (inClass (top 32) 3), defBody (inClass (top 32) 3), defScope (inClass (top 32) 3), [], []⟩]
def fn : List Hk.DefP := fn0 ++ fn1 ++ fn2 ++ fn3
def fa0 : List He.Fa := [.glo "Flow", .cls "Flow", .noat "Flow" "name", .noat "Flow" "route", .noat "Flow" "buffers", .noat "Flow" "kind", .noat "Flow" "size", .noat "Flow" "weight", .noat "Flow" "least", .noat "Flow" "cap", .noat "Flow" "door", .noat "Flow" "way", .noat "Flow" "manner", .noat "Flow" "strange", .noat "Flow" "last", .mkr "Flow", .meth "Flow" "__eq__", .meth "Flow" "channel_of", .glo "Sender", .cls "Sender"]
def fa1 : List He.Fa := [.noat "Sender" "flow", .noat "Sender" "age", .noat "Sender" "total", .mkr "Sender", .meth "Sender" "note_sent", .meth "Sender" "asks", .meth "Sender" "offer", .meth "Sender" "copy", .glo "ProbeSender", .cls "ProbeSender", .noat "ProbeSender" "flow", .noat "ProbeSender" "age", .noat "ProbeSender" "total", .noat "ProbeSender" "_bits", .noat "ProbeSender" "_low", .noat "ProbeSender" "_high", .noat "ProbeSender" "_done", .noat "ProbeSender" "_begun", .noat "ProbeSender" "_rate", .mkr "ProbeSender"]
def fa2 : List He.Fa := [.meth "ProbeSender" "force", .meth "ProbeSender" "note_sent", .meth "ProbeSender" "asks", .meth "ProbeSender" "_end_try", .meth "ProbeSender" "offer", .meth "ProbeSender" "copy", .glo "LevelSender", .cls "LevelSender", .noat "LevelSender" "flow", .noat "LevelSender" "age", .noat "LevelSender" "total", .noat "LevelSender" "_levels", .mkr "LevelSender", .meth "LevelSender" "note_sent", .meth "LevelSender" "asks", .meth "LevelSender" "offer", .meth "LevelSender" "copy", .glo "EagerSender", .cls "EagerSender", .noat "EagerSender" "flow"]
def fa3 : List He.Fa := [.noat "EagerSender" "age", .noat "EagerSender" "total", .noat "EagerSender" "_door", .mkr "EagerSender", .meth "EagerSender" "note_sent", .meth "EagerSender" "asks", .meth "EagerSender" "offer", .meth "EagerSender" "copy", .glo "WindowSender", .cls "WindowSender", .noat "WindowSender" "flow", .noat "WindowSender" "age", .noat "WindowSender" "total", .noat "WindowSender" "_came", .mkr "WindowSender", .meth "WindowSender" "note_sent", .meth "WindowSender" "asks", .meth "WindowSender" "offer", .meth "WindowSender" "copy", .glo "_wall"]
def fa4 : List He.Fa := [.glo "is_number", .glo "is_number_within", .glo "is_name", .glo "is_amount", .glo "is_small", .glo "plus", .glo "minus", .glo "_added", .glo "times", .glo "_product", .glo "compare", .glo "smallest", .glo "largest", .glo "is_manner", .glo "share", .glo "sender_of", .glo "_with_total", .glo "_check_place", .glo "_is_route", .glo "_are_buffers"]
def fa5 : List He.Fa := [.glo "_is_size", .glo "_check_kind", .glo "_fits_kind", .glo "_check_promise", .glo "_is_manner_within", .glo "_law_bag", .glo "_law_draw", .glo "_law_of", .glo "_law_mixed", .glo "_law_amount", .glo "_law_sum", .glo "_law_rest", .glo "_law_scaled", .glo "_law_less", .glo "_law_min", .glo "_law_max", .glo "_law_same", .glo "_law_some", .glo "_law_part", .glo "_law_name"]
def fa6 : List He.Fa := [.glo "_law_above", .glo "_law_wish", .glo "_law_flow", .glo "_law_made_flow", .glo "_law_share", .glo "_law_new", .glo "_law_class", .glo "_law_hears", .glo "_law_half", .glo "_law_searched", .glo "_law_due", .glo "_law_step", .glo "law", .free "ValueError", .free "all", .free "any", .free "bool", .free "dict", .free "divmod", .free "int"]
def fa7 : List He.Fa := [.free "isinstance", .free "len", .free "list", .free "max", .free "min", .free "range", .free "set", .free "str", .free "sum", .free "super", .free "tuple", .free "zip", .int "SMALL_BOTTOM" 12, .int "LONGEST_ROUTE" 5, .int "LONGEST_WAY" 20, .int "MOST_WEIGHT" 12, .int "MOST_TRIES" 12]
def fa : List He.Fa := fa0 ++ fa1 ++ fa2 ++ fa3 ++ fa4 ++ fa5 ++ fa6 ++ fa7
def ex (K : PySem.W.Frag) : Bool := decide (PySem.W.kitOne K (.ref (He.ga K "Sender")) (.ref (He.ga K "Sender")) = some true) && decide (PySem.W.kitOne K (.ref (He.ga K "LevelSender")) (.ref (He.ga K "Sender")) = some true) && decide (PySem.W.kitOne K (.ref (He.ga K "EagerSender")) (.ref (He.ga K "Sender")) = some true) && decide (PySem.W.kitOne K (.ref (He.ga K "WindowSender")) (.ref (He.ga K "Sender")) = some true) && decide (PySem.W.kitOne K (.ref (He.ga K "ProbeSender")) (.ref (He.ga K "Sender")) = some true) && decide (PySem.W.kitOne K (.ref (He.ga K "Sender")) (.ref (He.ga K "LevelSender")) = some false) && decide (PySem.W.kitOne K (.ref (He.ga K "LevelSender")) (.ref (He.ga K "LevelSender")) = some true) && decide (PySem.W.kitOne K (.ref (He.ga K "EagerSender")) (.ref (He.ga K "LevelSender")) = some false) && decide (PySem.W.kitOne K (.ref (He.ga K "WindowSender")) (.ref (He.ga K "LevelSender")) = some false) && decide (PySem.W.kitOne K (.ref (He.ga K "ProbeSender")) (.ref (He.ga K "LevelSender")) = some false) && decide (PySem.W.kitOne K (.ref (He.ga K "Sender")) (.ref (He.ga K "EagerSender")) = some false) && decide (PySem.W.kitOne K (.ref (He.ga K "LevelSender")) (.ref (He.ga K "EagerSender")) = some false) && decide (PySem.W.kitOne K (.ref (He.ga K "EagerSender")) (.ref (He.ga K "EagerSender")) = some true) && decide (PySem.W.kitOne K (.ref (He.ga K "WindowSender")) (.ref (He.ga K "EagerSender")) = some false) && decide (PySem.W.kitOne K (.ref (He.ga K "ProbeSender")) (.ref (He.ga K "EagerSender")) = some false) && decide (PySem.W.kitOne K (.ref (He.ga K "Sender")) (.ref (He.ga K "WindowSender")) = some false) && decide (PySem.W.kitOne K (.ref (He.ga K "LevelSender")) (.ref (He.ga K "WindowSender")) = some false) && decide (PySem.W.kitOne K (.ref (He.ga K "EagerSender")) (.ref (He.ga K "WindowSender")) = some false) && decide (PySem.W.kitOne K (.ref (He.ga K "WindowSender")) (.ref (He.ga K "WindowSender")) = some true) && decide (PySem.W.kitOne K (.ref (He.ga K "ProbeSender")) (.ref (He.ga K "WindowSender")) = some false) && decide (PySem.W.kitOne K (.ref (He.ga K "Sender")) (.ref (He.ga K "ProbeSender")) = some false) && decide (PySem.W.kitOne K (.ref (He.ga K "LevelSender")) (.ref (He.ga K "ProbeSender")) = some false) && decide (PySem.W.kitOne K (.ref (He.ga K "EagerSender")) (.ref (He.ga K "ProbeSender")) = some false) && decide (PySem.W.kitOne K (.ref (He.ga K "WindowSender")) (.ref (He.ga K "ProbeSender")) = some false) && decide (PySem.W.kitOne K (.ref (He.ga K "ProbeSender")) (.ref (He.ga K "ProbeSender")) = some true) && Hk.tyB K "Flow" && Hk.tyB K "Sender" && Hk.tyB K "LevelSender" && Hk.tyB K "EagerSender" && Hk.tyB K "WindowSender" && Hk.tyB K "ProbeSender" && He.eqO (PySem.W.nsIn K mainGlobals "gcd") (some (some (.builtin "math.gcd"))) && He.eqO (PySem.W.nsIn K mainGlobals "ZERO") (some (some (.ref (He.ga K "ZERO")))) && He.tupB K "ZERO" [.int 0, .int 1] && He.eqO (PySem.W.nsIn K mainGlobals "TOP") (some (some (.ref (He.ga K "TOP")))) && He.tupB K "TOP" [.int 1000, .int 1] && He.eqO (PySem.W.nsIn K mainGlobals "LARGEST_BUFFER") (some (some (.ref (He.ga K "LARGEST_BUFFER")))) && He.tupB K "LARGEST_BUFFER" [.int 1000000, .int 1] && He.eqO (PySem.W.nsIn K mainGlobals "KINDS") (some (some (.ref (He.ga K "KINDS")))) && He.tupB K "KINDS" [.str "level", .str "eager", .str "window", .str "probe"]
abbrev R : PySem.W.OpenRow := PySem.W.OpenLaw.row PySem.Challenge.rw_bandheld_k35_senders_told
def as_0 : List Addr := [3, 6, 4, 49, 56, 63, 70, 80, 100, 119, 122, 123, 130, 137, 144, 151, 158, 165, 172, 179, 186, 193, 200, 207, 252, 285, 320, 355, 414, 423, 430, 431, 432, 507, 518, 523, 528, 535, 542, 549]
def as_1 : List Addr := [556, 563, 570, 577, 584, 591, 598, 605, 612, 619, 626, 633, 640, 645, 652, 659, 664, 671, 678, 683, 690, 697, 704, 711, 716, 723, 728, 735, 742, 749, 0, 48, 55, 62, 69, 79, 99, 118, 129, 136]
def as_2 : List Addr := [143, 150, 157, 164, 171, 178, 185, 192, 199, 206, 251, 284, 319, 354, 413, 422, 429, 506, 517, 522, 527, 534, 541, 548, 555, 562, 569, 576, 583, 590, 597, 604, 611, 618, 625, 632, 639, 644, 651, 658]
def as_3 : List Addr := [663, 670, 677, 682, 689, 696, 703, 710, 715, 722, 727, 734, 741, 748, 43, 44, 45, 46, 47, 50, 51, 52, 53, 54, 57, 58, 59, 60, 61, 64, 65, 66, 67, 68, 78, 81, 97, 98, 116, 117]
def as_4 : List Addr := [124, 125, 126, 127, 128, 131, 132, 133, 134, 135, 138, 139, 140, 141, 142, 145, 146, 147, 148, 149, 152, 153, 154, 155, 156, 159, 160, 161, 162, 163, 166, 167, 168, 169, 170, 173, 174, 175, 176, 177]
def as_5 : List Addr := [180, 181, 182, 183, 184, 187, 188, 189, 190, 191, 194, 195, 196, 197, 198, 201, 202, 203, 204, 205, 221, 228, 235, 242, 249, 250, 253, 254, 270, 275, 282, 283, 303, 310, 317, 318, 338, 345, 352, 353]
def as_6 : List Addr := [371, 376, 383, 390, 397, 404, 411, 412, 417, 418, 419, 420, 421, 424, 425, 426, 427, 428, 447, 454, 461, 468, 476, 483, 490, 497, 504, 505, 508, 509, 512, 513, 514, 515, 516, 519, 520, 521, 524, 525]
def as_7 : List Addr := [526, 529, 530, 531, 532, 533, 536, 537, 538, 539, 540, 543, 544, 545, 546, 547, 550, 551, 552, 553, 554, 557, 558, 559, 560, 561, 564, 565, 566, 567, 568, 571, 572, 573, 574, 575, 578, 579, 580, 581]
def as_8 : List Addr := [582, 585, 586, 587, 588, 589, 592, 593, 594, 595, 596, 599, 600, 601, 602, 603, 606, 607, 608, 609, 610, 613, 614, 615, 616, 617, 620, 621, 622, 623, 624, 627, 628, 629, 630, 631, 634, 635, 636, 637]
def as_9 : List Addr := [638, 641, 642, 643, 646, 647, 648, 649, 650, 653, 654, 655, 656, 657, 660, 661, 662, 665, 666, 667, 668, 669, 672, 673, 674, 675, 676, 679, 680, 681, 684, 685, 686, 687, 688, 691, 692, 693, 694, 695]
def as_10 : List Addr := [698, 699, 700, 701, 702, 705, 706, 707, 708, 709, 712, 713, 714, 717, 718, 719, 720, 721, 724, 725, 726, 729, 730, 731, 732, 733, 736, 737, 738, 739, 740, 743, 744, 745, 746, 747, 96, 115, 220, 227]
def as_11 : List Addr := [234, 241, 248, 269, 260, 274, 281, 302, 291, 309, 316, 337, 326, 344, 351, 370, 361, 375, 382, 389, 396, 403, 410, 446, 440, 453, 460, 467, 475, 469, 482, 489, 496, 503, 91, 92, 93, 94, 95, 110]
def as_12 : List Addr := [111, 112, 113, 114, 215, 216, 217, 218, 219, 222, 223, 224, 225, 226, 229, 230, 231, 232, 233, 236, 237, 238, 239, 240, 243, 244, 245, 246, 247, 266, 267, 268, 271, 272, 273, 276, 277, 278, 279, 280]
def as_13 : List Addr := [297, 298, 299, 300, 301, 304, 305, 306, 307, 308, 311, 312, 313, 314, 315, 332, 333, 334, 335, 336, 339, 340, 341, 342, 343, 346, 347, 348, 349, 350, 367, 368, 369, 372, 373, 374, 377, 378, 379, 380]
def as_14 : List Addr := [381, 384, 385, 386, 387, 388, 391, 392, 393, 394, 395, 398, 399, 400, 401, 402, 405, 406, 407, 408, 409, 441, 442, 443, 444, 445, 448, 449, 450, 451, 452, 455, 456, 457, 458, 459, 462, 463, 464, 465]
def as_15 : List Addr := [466, 470, 471, 472, 473, 474, 477, 478, 479, 480, 481, 484, 485, 486, 487, 488, 491, 492, 493, 494, 495, 498, 499, 500, 501, 502, 260, 291, 326, 361, 2]
def as_ : List Addr := as_0 ++ as_1 ++ as_2 ++ as_3 ++ as_4 ++ as_5 ++ as_6 ++ as_7 ++ as_8 ++ as_9 ++ as_10 ++ as_11 ++ as_12 ++ as_13 ++ as_14 ++ as_15
def sf : List Hk.SupP := [⟨fun K => He.ma K (He.ga K "LevelSender") "__init__", fun K => He.ga K "LevelSender", fun K => He.ma K (He.ga K "Sender") "__init__", "__init__", "__init__", "LevelSender.__init__", defArgs (inClass (top 29) 0), defBody (inClass (top 29) 0), defScope (inClass (top 29) 0)⟩, ⟨fun K => He.ma K (He.ga K "EagerSender") "__init__", fun K => He.ga K "EagerSender", fun K => He.ma K (He.ga K "Sender") "__init__", "__init__", "__init__", "EagerSender.__init__", defArgs (inClass (top 30) 0), defBody (inClass (top 30) 0), defScope (inClass (top 30) 0)⟩, ⟨fun K => He.ma K (He.ga K "WindowSender") "__init__", fun K => He.ga K "WindowSender", fun K => He.ma K (He.ga K "Sender") "__init__", "__init__", "__init__", "WindowSender.__init__", defArgs (inClass (top 31) 0), defBody (inClass (top 31) 0), defScope (inClass (top 31) 0)⟩, ⟨fun K => He.ma K (He.ga K "ProbeSender") "__init__", fun K => He.ga K "ProbeSender", fun K => He.ma K (He.ga K "Sender") "__init__", "__init__", "__init__", "ProbeSender.__init__", defArgs (inClass (top 32) 0), defBody (inClass (top 32) 0), defScope (inClass (top 32) 0)⟩]
def file0 : Str := (PySem.Challenge.rw_bandheld_k35_senders_told).prog.main.file
noncomputable abbrev hk : PySem.W.Hook := Hk.hookS as_ fa fn ex sf file0
def ob (s : PySem.W.SharedT) : Hk.Al × Hk.Al := Hk.obGS as_ fa fn ex sf file0 (HandSHeadRun.getT s)
theorem ob_eq (s : PySem.W.SharedT) : ob s = hk.obs s.abs := Hk.obGS_eq (HandSHeadRun.getT_eq s)
def loose0 : List Str := ["_wall", "is_number", "is_number_within", "is_name", "is_amount", "is_small", "plus", "minus", "_added", "times", "_product", "compare", "smallest", "largest", "is_manner", "share", "sender_of", "_with_total", "_check_place", "_is_route"]
def loose1 : List Str := ["_are_buffers", "_is_size", "_check_kind", "_fits_kind", "_check_promise", "_is_manner_within", "_law_bag", "_law_draw", "_law_of", "_law_mixed", "_law_amount", "_law_sum", "_law_rest", "_law_scaled", "_law_less", "_law_min", "_law_max", "_law_same", "_law_some", "_law_part"]
def loose2 : List Str := ["_law_name", "_law_above", "_law_wish", "_law_flow", "_law_made_flow", "_law_share", "_law_new", "_law_class", "_law_hears", "_law_half", "_law_searched", "_law_due", "_law_step", "BandError", "BadFlow", "Short", "Sender", "LevelSender", "EagerSender", "WindowSender"]
def loose3 : List Str := ["ProbeSender", "Flow", "ZERO", "TOP", "SMALL_BOTTOM", "KINDS", "LARGEST_BUFFER", "LONGEST_ROUTE", "LONGEST_WAY", "MOST_WEIGHT", "MOST_TRIES"]
def loose : List Str := loose0 ++ loose1 ++ loose2 ++ loose3
abbrev vw : Program := PySem.W.view R.prog [0, 79]
theorem run1 (w : World) : Hk.At R 8000 w (fun x => Hk.obGS as_ fa fn ex sf file0 (HandSHeadRun.getT x.2)) (Hk.dueS fn sf) := by
  unfold Hk.At
  kernel_rfl
theorem run2 (w : World) : Hk.At R 8000 w (fun x => PySem.W.staticsOk (importedModules R.prog.main.body) x.1.heap x.2.abs.heap && PySem.W.laidKept x.1.heap x.2.abs.heap) true := by
  unfold Hk.At
  kernel_rfl
theorem run3 (w : World) : Hk.At R 8000 w (fun x => PySem.W.namesBound R.prog x.2.abs.heap && PySem.W.gensDone x.2.abs) true := by
  unfold Hk.At
  kernel_rfl
theorem run4 (w : World) : Hk.At R 8000 w (fun x => HandSHeadRun.seenQ vw loose (importedModules R.prog.main.body) (fun s => PySem.W.xlAt vw [] s && PySem.W.recOk R.toRowW.records s) x.2.abs) (PySem.W.openGood vw loose) := by
  unfold Hk.At
  kernel_rfl
theorem run (w : World) : HandSHeadRun.RunEqI R vw hk ob 8000 loose w := Hk.joinS (run1 w) (run2 w) (run3 w) (run4 w)
end YkHead

set_option maxHeartbeats 1000000
/-! Texts of numbers. -/
namespace Yk
open PySem PySem.Spec PyProof.Rows L2 TL
/-- the text of a number -/
def nt (n : Nat) : Str := Str.ofString (toString ((n : Nat) : Int))
theorem tl_nt (n : Nat) : tl (nt n) = numL n := tl_num n
theorem cps_nt (n : Nat) : (nt n).cps.toList = numL n := tl_nt n
theorem str_eq {a b : Str} (h : tl a = tl b) : a = b := Str.ext' (Array.toList_inj.mp h)
theorem len_nt (n : Nat) : (nt n).length = (numL n).length := by rw [← tl_nt]; exact (Array.length_toList).symm
theorem numL_le {n k : Nat} (hk : 0 < k) (h : n < 10 ^ k) : (numL n).length ≤ k := by
  unfold numL
  rw [List.length_map]
  exact (Nat.length_toDigits_le_iff (by decide) hk).mpr h
theorem numL_ne (n : Nat) : numL n ≠ [] := by
  unfold numL
  intro e
  have h := List.map_eq_nil_iff.mp e
  have h2 : 0 < (Nat.toDigits 10 n).length := by
    by_cases hn : n < 10
    · rw [Nat.toDigits_of_lt_base hn]; simp
    · rw [Nat.toDigits_of_base_le (by decide) (by omega)]; simp
  rw [h] at h2
  exact absurd h2 (by decide)
theorem numL_snoc {n d : Nat} (hn : 0 < n) (hd : d < 10) : numL (n * 10 + d) = numL n ++ numL d := by
  unfold numL
  rw [← List.map_append, Nat.toDigits_append_toDigits (by decide) hn hd, Nat.mul_comm]
theorem numL_digit {d : Nat} (hd : d < 10) : numL d = [48 + d] := numL_lt hd
/-- filled up with noughts -/
def padL (k n : Nat) : List Nat := List.replicate (k - (numL n).length) 48 ++ numL n
theorem numL_split : ∀ (k : Nat) (q r : Nat), 0 < q → r < 10 ^ (k + 1) → numL (q * 10 ^ (k + 1) + r) = numL q ++ padL (k + 1) r
  | 0, q, r, hq, hr => by
    have hr' : r < 10 := by simpa using hr
    unfold padL
    rw [numL_digit hr', show 10 ^ (0 + 1) = 10 from rfl, numL_snoc hq hr', numL_digit hr']
    rfl
  | k + 1, q, r, hq, hr => by
    have h1 : r / 10 < 10 ^ (k + 1) := Nat.div_lt_of_lt_mul (by rw [Nat.pow_succ] at hr; omega)
    have hd : r % 10 < 10 := Nat.mod_lt _ (by decide)
    have e : q * 10 ^ (k + 1 + 1) + r = (q * 10 ^ (k + 1) + r / 10) * 10 + r % 10 := by
      rw [Nat.pow_succ 10 (k + 1), ← Nat.mul_assoc, Nat.add_mul, Nat.add_assoc, Nat.div_add_mod' r 10]
    have hp : 0 < q * 10 ^ (k + 1) + r / 10 := by
      have : 0 < q * 10 ^ (k + 1) := Nat.mul_pos hq (Nat.pow_pos (by decide))
      omega
    rw [e, numL_snoc hp hd, numL_split k q (r / 10) hq h1, List.append_assoc]
    congr 1
    unfold padL
    by_cases hz : r / 10 = 0
    · have er : r = r % 10 := by omega
      rw [hz, numL_digit (show 0 < 10 by decide), numL_digit hd]
      have e2 : numL r = [48 + r % 10] := by rw [er]; simpa using numL_digit hd
      rw [e2]
      have h3 : List.replicate (k + 1 - [48 + 0].length) 48 ++ [48 + 0] = List.replicate (k + 1) 48 := by
        show List.replicate (k + 1 - 1) 48 ++ [48] = _
        rw [show k + 1 - 1 = k by omega, ← List.replicate_succ']
      rw [h3]
      show List.replicate (k + 1) 48 ++ _ = List.replicate (k + 1 + 1 - 1) 48 ++ _
      rw [show k + 1 + 1 - 1 = k + 1 by omega]
    · have e2 : numL r = numL (r / 10) ++ numL (r % 10) := by
        rw [← numL_snoc (by omega) hd, Nat.div_add_mod' r 10]
      rw [e2, List.length_append, numL_digit hd, List.append_assoc]
      rw [show k + 1 + 1 - ((numL (r / 10)).length + [48 + r % 10].length) = k + 1 - (numL (r / 10)).length by show k + 1 + 1 - (_ + 1) = _; omega]
theorem numL_range {n c : Nat} (h : c ∈ numL n) : 48 ≤ c ∧ c ≤ 57 := by
  unfold numL at h
  obtain ⟨ch, hch, e⟩ := List.mem_map.mp h
  have r := digit_range (Nat.isDigit_of_mem_toDigits (by decide) (by decide) hch)
  rw [← e]
  exact r
theorem zfill_tl {n k : Nat} (h : (numL n).length ≤ k) : tl (Txt.zfill (nt n) (k : Int)) = padL k n := by
  unfold Txt.zfill
  rw [len_nt]
  split
  · rename_i hk
    have e : (numL n).length = k := by omega
    unfold padL
    rw [e, Nat.sub_self, tl_nt]
    rfl
  · unfold zfilled
    have hc : ∀ c, (nt n).cps[0]? = some c → c ≠ 43 ∧ c ≠ 45 := by
      intro c hc
      have h1 : c ∈ numL n := by
        rw [← tl_nt]
        rw [← Array.getElem?_toList] at hc
        exact List.mem_of_getElem? hc
      have := numL_range h1
      omega
    have hp : tl (Builtin.Str.padded (nt n) (Int.toNat (k : Int) - (numL n).length) 0 48) = padL k n := by
      unfold Builtin.Str.padded padL
      show (Array.replicate (k - (numL n).length) 48 ++ (nt n).cps ++ Array.replicate 0 48).toList = _
      rw [Array.toList_append, Array.toList_append, cps_nt]
      simp
    split
    · rename_i e
      exact absurd rfl (hc _ e).1
    · rename_i e
      exact absurd rfl (hc _ e).2
    · exact hp
theorem read_nt {n : Nat} (h : (nt n).length ≤ 4300) : PySem.intText? (nt n) = some (n : Int) := by
  have hd : PySem.NumText.AllDigits (nt n).cps.toList := by
    intro c hc
    rw [cps_nt] at hc
    exact numL_range hc
  have hne : (nt n).cps.toList ≠ [] := by
    rw [cps_nt]
    exact numL_ne n
  have e := PySem.intText_digits hd hne h
  rw [cps_nt] at e
  rw [e]
  unfold numL
  rw [PySem.W.KIN.val_back]
theorem ascii_nt (n : Nat) : Txt.isascii (nt n) = true := by
  unfold Txt.isascii
  rw [← Array.all_toList, List.all_eq_true]
  intro c hc
  rw [cps_nt] at hc
  have := numL_range hc
  exact decide_eq_true (by omega)
theorem uni_digit : ∀ d : Nat, d < 10 → Unicode.isDigit (48 + d) = true := by decide +kernel
theorem digit_nt (n : Nat) : Txt.isdigit (nt n) = true := by
  unfold Txt.isdigit
  rw [Bool.and_eq_true]
  refine ⟨decide_eq_true ?_, ?_⟩
  · rw [len_nt]
    exact List.length_pos_iff.mpr (numL_ne n)
  · rw [← Array.all_toList, List.all_eq_true]
    intro c hc
    rw [cps_nt] at hc
    have h := numL_range hc
    have := uni_digit (c - 48) (by omega)
    rw [show 48 + (c - 48) = c by omega] at this
    exact this
theorem numL_head : ∀ n : Nat, 0 < n → ∃ c r, numL n = c :: r ∧ c ≠ 48 := by
  intro n
  induction n using Nat.strongRecOn with
  | _ n ih =>
    intro hn
    by_cases h : n < 10
    · exact ⟨48 + n, [], numL_digit h, by omega⟩
    · obtain ⟨c, r, e, hc⟩ := ih (n / 10) (by omega) (by omega)
      refine ⟨c, r ++ numL (n % 10), ?_, hc⟩
      have h2 := numL_snoc (n := n / 10) (d := n % 10) (by omega) (Nat.mod_lt _ (by decide))
      rw [show n / 10 * 10 + n % 10 = n by omega, e] at h2
      exact h2
theorem nt_zero : nt 0 = Str.ofString "0" := by decide +kernel
theorem starts_nt {n : Nat} (hn : 0 < n) : Txt.startswith (nt n) (Str.ofString "0") = false := by
  unfold Txt.startswith
  obtain ⟨c, r, e, hc⟩ := numL_head n hn
  rw [Bool.and_eq_false_iff]
  right
  unfold Builtin.Str.subAt
  rw [show (Str.ofString "0") = ⟨#[48]⟩ by decide +kernel]
  rw [beq_eq_false_iff_ne]
  intro z
  have z2 := congrArg Array.toList z
  rw [Array.toList_extract] at z2
  rw [cps_nt, e] at z2
  simp at z2
  have z3 : List.take 1 (c :: r) = [48] := z2
  simp at z3
  exact hc z3
/-- the text of an amount -/
def amTxt (q : Rat) : Str := if q.den = 1 then nt q.num.toNat else nt q.num.toNat ++ Str.ofString "/" ++ nt q.den
theorem slash_nt (n : Nat) : 47 ∉ tl (nt n) := fun h => by rw [tl_nt] at h; have := numL_range h; omega
theorem slash : Str.ofString "/" = ⟨#[47]⟩ := by decide +kernel
theorem part_nt (n : Nat) : Txt.partition (nt n) (Str.ofString "/") = (nt n, Str.empty, Str.empty) := partition_none (y := Str.ofString "/") (s := 47) (S := []) (by rw [slash]) (slash_nt n)
theorem part_am (n d : Nat) : Txt.partition (nt n ++ Str.ofString "/" ++ nt d) (Str.ofString "/") = (nt n, Str.ofString "/", nt d) := partition_app (y := Str.ofString "/") (s := 47) (S := []) (by rw [slash]) (slash_nt n)
theorem joinL_nil : ∀ l : List (List Nat), joinL [] l = l.flatten
  | [] => rfl
  | [p] => by simp [joinL]
  | p :: q :: r => by
    show p ++ ([] ++ joinL [] (q :: r)) = _
    rw [joinL_nil (q :: r)]
    simp
theorem tl_join0 (parts : List Str) : tl (Txt.join Str.empty parts) = (parts.map tl).flatten := by
  rw [join_eq, tl_join]
  exact joinL_nil _
theorem len_sum : ∀ parts : List Str, (parts.map (·.length)).sum = (parts.map tl).flatten.length
  | [] => rfl
  | p :: r => by
    show p.length + (r.map (·.length)).sum = (tl p ++ (r.map tl).flatten).length
    rw [List.length_append, len_sum r]
    congr 1
theorem bits_lt {n b : Nat} (h : n < 2 ^ b) : n < 10 ^ b := Nat.lt_of_lt_of_le h (Nat.pow_le_pow_left (by decide) b)
theorem log_lt {n b : Nat} (hb : 0 < b) (h : n < 2 ^ b) : n.log2 < b := PySem.Flt.log2_lt_of hb h
end Yk

set_option maxHeartbeats 1000000
namespace Yk
open PySem PySem.Spec PyProof.Rows L2

section
variable {P : Program} {w : World} {K : PySem.W.Frag} {mg : Str → Option Value} {base : Heap} {f : Addr} {fd : FuncData}
abbrev s_added : Stmt := top 18
theorem c_added : FnScope ["first", "second", "top", "bottom", "other_top", "other_bottom", "common", "rest", "new_top", "shared"] ["first", "second"] (defScope s_added) := ⟨rfl, rfl, rfl, by decide +kernel, rfl, by decide +kernel, by decide +kernel⟩
theorem f_added (F : FunD K "_added" "_added" (defArgs s_added) (defBody s_added) (defScope s_added) [] [] f fd) (hm : mg "_added" = some (.ref f)) (T : Bg mg) : Fn P w K mg base 1 "_added" (spAdded K) := by
  refine fn_def F hm c_added (fun vs H Q E h => ?_) (fun _ _ _ _ _ _ us hl => match us, hl with | [_, _], _ => rfl) (fun cdv A outer s H vs Q E hr h => ?_)
  · obtain ⟨v1, v2, p, q, rfl, _⟩ := h
    rfl
  · obtain ⟨v1, v2, p, q, rfl, ⟨a1, rfl, h1⟩, ⟨a2, rfl, h2⟩, z1, z2, k⟩ := h
    have nd := c_added.nd
    refine ⟨_, (pss_cons (ps_asg (pv 0) (pg_tup rfl (pgs_cons (pg_name (i := 2) nd rfl (by first | exact Or.inl rfl | exact Or.inr rfl)) (pgs_cons (pg_name (i := 3) nd rfl (by first | exact Or.inl rfl | exact Or.inr rfl)) pgs_nil))))
      (pss_cons (ps_asg (pv 1) (pg_tup rfl (pgs_cons (pg_name (i := 4) nd rfl (by first | exact Or.inl rfl | exact Or.inr rfl)) (pgs_cons (pg_name (i := 5) nd rfl (by first | exact Or.inl rfl | exact Or.inr rfl)) pgs_nil))))
      (pss_cons (ps_set (i := 6) nd rfl (by first | exact Or.inl rfl | exact Or.inr rfl) (pe_callBfun cr_gcd (by rfl) T.gcd (pa_cons (pv 3) (pa_cons (pv 5) pa_nil))))
      (pss_cons (ps_set (i := 7) nd rfl (by first | exact Or.inl rfl | exact Or.inr rfl) (pe_op op_fdivW (pv 3) (pv 6)))
      (pss_cons (ps_set (i := 8) nd rfl (by first | exact Or.inl rfl | exact Or.inr rfl) (pe_op op_add (pe_op op_mulW (pv 2) (pe_op op_fdivW (pv 5) (pv 6))) (pe_op op_mulW (pv 4) (pv 7))))
      (pss_cons (ps_set (i := 9) nd rfl (by first | exact Or.inl rfl | exact Or.inr rfl) (pe_callBfun cr_gcd (by rfl) T.gcd (pa_cons (pv 8) (pa_cons (pv 6) pa_nil))))
      (pss_one (ps_ret (pe_tup (pa_cons (pe_op op_fdivW (pv 8) (pv 9)) (pa_cons (pe_op op_mulW (pv 7) (pe_op op_fdivW (pv 5) (pv 9))) pa_nil))))))))))), ?_⟩
    show (_ : TS) _ [some _, some _, none, none, none, none, none, none, none, none] _
    try dsimp only [cxOf, Cx.nox]
    have g0 : 0 < Nat.gcd p.den q.den := Nat.gcd_pos_of_pos_left _ p.den_pos
    have gl : Nat.gcd p.den q.den < 2 ^ 4000 := Nat.lt_of_le_of_lt (Nat.gcd_le_left _ p.den_pos) z1.2
    have e1 : (p.den : Int).natAbs < 2 ^ 4000 := z1.2
    have e2 : (q.den : Int).natAbs < 2 ^ 4000 := z2.2
    have d1 : ∀ i : Int, CDivW i ((Nat.gcd p.den q.den : Nat) : Int) := fun i => cdiv g0 gl (by decide) (by decide)
    have m1 : CMulW p.num ((q.den : Int) / ((Nat.gcd p.den q.den : Nat) : Int)) := cmul z1.1 (dlt e2) (by decide) (by decide) (by decide)
    have m2 : CMulW q.num ((p.den : Int) / ((Nat.gcd p.den q.den : Nat) : Int)) := cmul z2.1 (dlt e1) (by decide) (by decide) (by decide)
    have s0 : ∀ n : Nat, 0 < Nat.gcd n (Nat.gcd p.den q.den) := fun n => Nat.gcd_pos_of_pos_right _ g0
    have sl : ∀ n : Nat, Nat.gcd n (Nat.gcd p.den q.den) < 2 ^ 4000 := fun n => Nat.lt_of_le_of_lt (Nat.gcd_le_right _ g0) gl
    have d2 : ∀ (i : Int) (n : Nat), CDivW i ((Nat.gcd n (Nat.gcd p.den q.den) : Nat) : Int) := fun i n => cdiv (s0 n) (sl n) (by decide) (by decide)
    have m3 : ∀ n : Nat, CMulW ((p.den : Int) / ((Nat.gcd p.den q.den : Nat) : Int)) ((q.den : Int) / ((Nat.gcd n (Nat.gcd p.den q.den) : Nat) : Int)) := fun n => cmul (dlt e1) (dlt e2) (by decide) (by decide) (by decide)
    walk_at "go"
    refine r_I (d1 _) ?_
    walk_at "go"
    refine r_I (d1 _) ?_
    walk_at "go"
    refine r_I (d2 _ _) ?_
    walk_at "go"
    refine r_I (d2 _ _) ?_
    walk_at "go"
    refine r_I (m3 _) ?_
    walk_at "go"
    refine k _ _ (Ext.refl.new (by assumption)) ⟨_, rfl, ?_⟩
    obtain ⟨x1, x2⟩ := add_int p q
    rw [x1, x2]
    exact tupS
end
end Yk

set_option maxHeartbeats 1000000
namespace Yk
open PySem PySem.Spec PyProof.Rows L2

section
variable {P : Program} {w : World} {K : PySem.W.Frag} {mg : Str → Option Value} {base : Heap} {f : Addr} {fd : FuncData}
def spProd (K : PySem.W.Frag) : Sp := fun vs H Q _ => ∃ p q : Rat, vs = [.int p.num, .int (p.den : Int), .int q.num, .int (q.den : Int)] ∧ Sz 4000 p ∧ Sz 4000 q ∧ RetAm K H Q (p * q)
abbrev s_product : Stmt := top 20
theorem c_product : FnScope ["top", "bottom", "other_top", "other_bottom", "left", "right"] ["top", "bottom", "other_top", "other_bottom"] (defScope s_product) := ⟨rfl, rfl, rfl, by decide +kernel, rfl, by decide +kernel, by decide +kernel⟩
theorem f_product (F : FunD K "_product" "_product" (defArgs s_product) (defBody s_product) (defScope s_product) [] [] f fd) (hm : mg "_product" = some (.ref f)) (T : Bg mg) : Fn P w K mg base 1 "_product" (spProd K) := by
  refine fn_def F hm c_product (fun vs H Q E h => ?_) (fun _ _ _ _ _ _ us hl => match us, hl with | [_, _, _, _], _ => rfl) (fun cdv A outer s H vs Q E hr h => ?_)
  · obtain ⟨p, q, rfl, _⟩ := h
    rfl
  · obtain ⟨p, q, rfl, z1, z2, k⟩ := h
    have nd := c_product.nd
    refine ⟨_, (pss_cons (ps_set (i := 4) nd rfl (by first | exact Or.inl rfl | exact Or.inr rfl) (pe_callBfun cr_gcd (by rfl) T.gcd (pa_cons (pv 0) (pa_cons (pv 3) pa_nil))))
      (pss_cons (ps_set (i := 5) nd rfl (by first | exact Or.inl rfl | exact Or.inr rfl) (pe_callBfun cr_gcd (by rfl) T.gcd (pa_cons (pv 2) (pa_cons (pv 1) pa_nil))))
      (pss_one (ps_ret (pe_tup (pa_cons (pe_op op_mulW (pe_op op_fdivW (pv 0) (pv 4)) (pe_op op_fdivW (pv 2) (pv 5))) (pa_cons (pe_op op_mulW (pe_op op_fdivW (pv 1) (pv 5)) (pe_op op_fdivW (pv 3) (pv 4))) pa_nil))))))), ?_⟩
    show (_ : TS) _ [some _, some _, some _, some _, none, none] _
    try dsimp only [cxOf, Cx.nox]
    have g1 : 0 < Nat.gcd p.num.natAbs q.den := Nat.gcd_pos_of_pos_right _ q.den_pos
    have g2 : 0 < Nat.gcd q.num.natAbs p.den := Nat.gcd_pos_of_pos_right _ p.den_pos
    have l1 : Nat.gcd p.num.natAbs q.den < 2 ^ 4000 := Nat.lt_of_le_of_lt (Nat.gcd_le_right _ q.den_pos) z2.2
    have l2 : Nat.gcd q.num.natAbs p.den < 2 ^ 4000 := Nat.lt_of_le_of_lt (Nat.gcd_le_right _ p.den_pos) z1.2
    have e1 : (p.den : Int).natAbs < 2 ^ 4000 := z1.2
    have e2 : (q.den : Int).natAbs < 2 ^ 4000 := z2.2
    have d1 : ∀ i : Int, CDivW i ((Nat.gcd p.num.natAbs q.den : Nat) : Int) := fun i => cdiv g1 l1 (by decide) (by decide)
    have d2 : ∀ i : Int, CDivW i ((Nat.gcd q.num.natAbs p.den : Nat) : Int) := fun i => cdiv g2 l2 (by decide) (by decide)
    have m1 : CMulW (p.num / ((Nat.gcd p.num.natAbs q.den : Nat) : Int)) (q.num / ((Nat.gcd q.num.natAbs p.den : Nat) : Int)) := cmul (dlt z1.1) (dlt z2.1) (by decide) (by decide) (by decide)
    have m2 : CMulW ((p.den : Int) / ((Nat.gcd q.num.natAbs p.den : Nat) : Int)) ((q.den : Int) / ((Nat.gcd p.num.natAbs q.den : Nat) : Int)) := cmul (dlt e1) (dlt e2) (by decide) (by decide) (by decide)
    walk_at "go"
    refine r_I (d1 _) ?_
    walk_at "go"
    refine r_I (d2 _) ?_
    walk_at "go"
    refine r_I (d2 _) ?_
    walk_at "go"
    refine r_I (d1 _) ?_
    walk_at "go"
    refine k _ _ (Ext.refl.new (by assumption)) ⟨_, rfl, ?_⟩
    obtain ⟨x1, x2⟩ := mul_int' p q
    rw [x1, x2]
    exact tupS
def spTimes (K : PySem.W.Frag) : Sp := fun vs H Q _ => ∃ v1 v2 p q, vs = [v1, v2] ∧ Am K H v1 p ∧ Am K H v2 q ∧ Sz 4000 p ∧ Sz 4000 q ∧ RetAm K H Q (p * q)
abbrev s_times : Stmt := top 19
theorem c_times : FnScope ["first", "second"] ["first", "second"] (defScope s_times) := ⟨rfl, rfl, rfl, by decide +kernel, rfl, by decide +kernel, by decide +kernel⟩
theorem f_times (F : FunD K "times" "times" (defArgs s_times) (defBody s_times) (defScope s_times) [] [] f fd) (hm : mg "times" = some (.ref f)) (F_product : Fn P w K mg base 1 "_product" (spProd K)) : Fn P w K mg base 2 "times" (spTimes K) := by
  refine fn_def F hm c_times (fun vs H Q E h => ?_) (fun _ _ _ _ _ _ us hl => match us, hl with | [_, _], _ => rfl) (fun cdv A outer s H vs Q E hr h => ?_)
  · obtain ⟨v1, v2, p, q, rfl, _⟩ := h
    rfl
  · obtain ⟨v1, v2, p, q, rfl, ⟨a1, rfl, h1⟩, ⟨a2, rfl, h2⟩, z1, z2, k⟩ := h
    have nd := c_times.nd
    refine ⟨_, (pss_one (ps_ret (pe_fn F_product (hr.mono (by decide)) (pa_cons (pe_ix ix_tup (pv 0) pe_int (fun _ _ => rfl)) (pa_cons (pe_ix ix_tup (pv 0) pe_int (fun _ _ => rfl)) (pa_cons (pe_ix ix_tup (pv 1) pe_int (fun _ _ => rfl)) (pa_cons (pe_ix ix_tup (pv 1) pe_int (fun _ _ => rfl)) pa_nil))))))), ?_⟩
    show (_ : TS) _ [some _, some _] _
    try dsimp only [cxOf, Cx.nox]
    walk_at "go"
    exact ⟨p, q, rfl, z1, z2, k⟩
def spOver (K : PySem.W.Frag) : Sp := fun vs H Q _ => ∃ v1 v2 p q, vs = [v1, v2] ∧ Am K H v1 p ∧ Am K H v2 q ∧ 0 < q ∧ Sz 4000 p ∧ Sz 4000 q ∧ RetAm K H Q (p / q)
def cmpQ (p q : Rat) : Int := if p < q then -1 else if q < p then 1 else 0
def spCompare (K : PySem.W.Frag) : Sp := fun vs H Q _ => ∃ v1 v2 p q, vs = [v1, v2] ∧ Am K H v1 p ∧ Am K H v2 q ∧ Sz 4000 p ∧ Sz 4000 q ∧ Q (.int (cmpQ p q)) H
abbrev s_compare : Stmt := top 21
theorem c_compare : FnScope ["first", "second", "left", "right"] ["first", "second"] (defScope s_compare) := ⟨rfl, rfl, rfl, by decide +kernel, rfl, by decide +kernel, by decide +kernel⟩
theorem f_compare (F : FunD K "compare" "compare" (defArgs s_compare) (defBody s_compare) (defScope s_compare) [] [] f fd) (hm : mg "compare" = some (.ref f))  : Fn P w K mg base 1 "compare" (spCompare K) := by
  refine fn_def F hm c_compare (fun vs H Q E h => ?_) (fun _ _ _ _ _ _ us hl => match us, hl with | [_, _], _ => rfl) (fun cdv A outer s H vs Q E hr h => ?_)
  · obtain ⟨v1, v2, p, q, rfl, _⟩ := h
    rfl
  · obtain ⟨v1, v2, p, q, rfl, ⟨a1, rfl, h1⟩, ⟨a2, rfl, h2⟩, z1, z2, k⟩ := h
    have nd := c_compare.nd
    refine ⟨_, (pss_cons (ps_set (i := 2) nd rfl (by first | exact Or.inl rfl | exact Or.inr rfl) (pe_op op_mulW (pe_ix ix_tup (pv 0) pe_int (fun _ _ => rfl)) (pe_ix ix_tup (pv 1) pe_int (fun _ _ => rfl))))
      (pss_cons (ps_set (i := 3) nd rfl (by first | exact Or.inl rfl | exact Or.inr rfl) (pe_op op_mulW (pe_ix ix_tup (pv 1) pe_int (fun _ _ => rfl)) (pe_ix ix_tup (pv 0) pe_int (fun _ _ => rfl))))
      (pss_cons (ps_if (pt_cmpR op_lt (pv 2) (pv 3) (nomark _))
        (pss_one (ps_ret (pe_un un_neg pe_int)))
        pss_nil)
      (pss_cons (ps_if (pt_cmpR op_gt (pv 2) (pv 3) (nomark _))
        (pss_one (ps_ret pe_int))
        pss_nil)
      (pss_one (ps_ret pe_int)))))), ?_⟩
    show (_ : TS) _ [some _, some _, none, none] _
    try dsimp only [cxOf, Cx.nox]
    have e1 : (p.den : Int).natAbs < 2 ^ 4000 := z1.2
    have e2 : (q.den : Int).natAbs < 2 ^ 4000 := z2.2
    have m1 : CMulW p.num (q.den : Int) := cmul z1.1 e2 (by decide) (by decide) (by decide)
    have m2 : CMulW q.num (p.den : Int) := cmul z2.1 e1 (by decide) (by decide) (by decide)
    walk_at "go"
    refine r_dec (fun hlt => ?_) (fun hlt => ?_)
    · walk_at "go"
      unfold cmpQ at k
      rw [if_pos ((Rat.lt_iff p q).mpr hlt)] at k
      exact k
    · walk_at "go"
      have n1 : ¬ p < q := fun z => hlt ((Rat.lt_iff p q).mp z)
      refine r_dec (fun hgt => ?_) (fun hgt => ?_)
      · walk_at "go"
        unfold cmpQ at k
        rw [if_neg n1, if_pos ((Rat.lt_iff q p).mpr hgt)] at k
        exact k
      · walk_at "go"
        have n2 : ¬ q < p := fun z => hgt ((Rat.lt_iff q p).mp z)
        unfold cmpQ at k
        rw [if_neg n1, if_neg n2] at k
        exact k
def spMinus (K : PySem.W.Frag) : Sp := fun vs H Q _ => ∃ v1 v2 p q, vs = [v1, v2] ∧ Am K H v1 p ∧ Am K H v2 q ∧ q ≤ p ∧ Sz 4000 p ∧ Sz 4000 q ∧ RetAm K H Q (p - q)
abbrev s_minus : Stmt := top 17
theorem c_minus : FnScope ["first", "second"] ["first", "second"] (defScope s_minus) := ⟨rfl, rfl, rfl, by decide +kernel, rfl, by decide +kernel, by decide +kernel⟩
theorem f_minus (F : FunD K "minus" "minus" (defArgs s_minus) (defBody s_minus) (defScope s_minus) [] [] f fd) (hm : mg "minus" = some (.ref f)) (Fcompare : Fn P w K mg base 1 "compare" (spCompare K)) (F_added : Fn P w K mg base 1 "_added" (spAdded K)) : Fn P w K mg base 2 "minus" (spMinus K) := by
  refine fn_def F hm c_minus (fun vs H Q E h => ?_) (fun _ _ _ _ _ _ us hl => match us, hl with | [_, _], _ => rfl) (fun cdv A outer s H vs Q E hr h => ?_)
  · obtain ⟨v1, v2, p, q, rfl, _⟩ := h
    rfl
  · obtain ⟨v1, v2, p, q, rfl, ⟨a1, rfl, h1⟩, ⟨a2, rfl, h2⟩, hle, z1, z2, k⟩ := h
    have nd := c_minus.nd
    refine ⟨_, (pss_cons (ps_if (pt_cmpR op_lt (pe_fn Fcompare (hr.mono (by decide)) (pa_cons (pv 0) (pa_cons (pv 1) pa_nil))) pe_int (nomark _))
        (pss_one ps_never)
        pss_nil)
      (pss_one (ps_ret (pe_fn F_added (hr.mono (by decide)) (pa_cons (pv 0) (pa_cons (pe_tup (pa_cons (pe_un un_neg (pe_ix ix_tup (pv 1) pe_int (fun _ _ => rfl))) (pa_cons (pe_ix ix_tup (pv 1) pe_int (fun _ _ => rfl)) pa_nil))) pa_nil)))))), ?_⟩
    show (_ : TS) _ [some _, some _] _
    try dsimp only [cxOf, Cx.nox]
    walk_at "go"
    refine ⟨_, _, p, q, rfl, ⟨_, rfl, h1⟩, ⟨_, rfl, h2⟩, z1, z2, ?_⟩
    walk_at "go"
    have n1 : ¬ cmpQ p q < 0 := by
      unfold cmpQ
      rw [if_neg (Rat.not_lt.mpr hle)]
      split <;> omega
    refine r_dec (fun hlt => absurd hlt n1) (fun _ => ?_)
    walk_at "go"
    refine ⟨_, _, p, -q, rfl, ⟨_, rfl, tupN h1 (by assumption)⟩, ⟨_, rfl, ?_⟩, z1, sz_neg z2, fun v H' e a => ?_⟩
    · rw [Rat.neg_num]
      exact tupS
    · refine k v H' ((Ext.refl.new (by assumption)).trans e) ?_
      rw [Rat.sub_eq_add_neg]
      exact a
/-- the sum of a row, from the left -/
def sumQ (qs : List Rat) : Rat := qs.foldl (· + ·) 0
theorem sumQ_take {qs : List Rat} {i : Nat} {q : Rat} (h : qs[i]? = some q) : sumQ (qs.take (i + 1)) = sumQ (qs.take i) + q := by
  obtain ⟨hl, e⟩ := List.getElem?_eq_some_iff.mp h
  unfold sumQ
  rw [← List.take_append_getElem hl, List.foldl_append, e]
  rfl
theorem sumQ_sz {m : Nat} : ∀ {qs : List Rat} (i : Nat), (∀ q ∈ qs, Sz m q) → i ≤ qs.length → Sz (1 + i * (m + 1)) (sumQ (qs.take i))
  | qs, 0, _, _ => by
    rw [List.take_zero]
    refine ⟨Nat.two_pow_pos _, ?_⟩
    rw [Nat.zero_mul]
    decide
  | qs, i + 1, h, hi => by
    have hq : qs[i]? = some qs[i] := List.getElem?_eq_getElem hi
    rw [sumQ_take hq]
    have h1 := sumQ_sz i h (by omega)
    have h2 := h qs[i] (List.getElem_mem hi)
    refine (sz_add h1 h2).mono ?_
    rw [Nat.add_mul]
    omega
def spPlusT (K : PySem.W.Frag) : Sp := fun vs H Q _ => ∃ t xs qs m, vs = [V.ref t] ∧ SqT K H t xs ∧ Ams K H xs qs ∧ (∀ q ∈ qs, Sz m q) ∧ m ≤ 4000 ∧ 1 + qs.length * (m + 1) ≤ 4000 ∧ RetAm K H Q (sumQ qs)
def spPlus (K : PySem.W.Frag) : Sp := fun vs H Q _ => ∃ qs m, Ams K H vs qs ∧ (∀ q ∈ qs, Sz m q) ∧ m ≤ 4000 ∧ 1 + qs.length * (m + 1) ≤ 4000 ∧ RetAm K H Q (sumQ qs)
abbrev s_plus : Stmt := top 16
theorem c_plus : FnScope ["amounts", "found", "further"] ["amounts"] (defScope s_plus) := ⟨rfl, rfl, rfl, by decide +kernel, rfl, by decide +kernel, by decide +kernel⟩
theorem f_plus (F : FunD K "plus" "plus" (defArgs s_plus) (defBody s_plus) (defScope s_plus) [] [] f fd) (hm : mg "plus" = some (.ref f)) (TZ : ∃ z, mg "ZERO" = some (.ref z) ∧ ∀ H, SqT K H z [.int 0, .int 1]) (F_added : Fn P w K mg base 1 "_added" (spAdded K)) : Fn P w K mg base 2 "plus" (spPlus K) := by
  refine fn_star (ps := []) (pv := "amounts") (sp := spPlusT K) F hm c_plus (fun _ _ _ _ _ _ us rest hl => match us, rest, hl with | [], [], _ => rfl | [], _ :: _, _ => rfl) (fun cdv A outer s H vs Q E hr h => ?_) ?himp
  case himp =>
    exact fun vs H Q E ⟨qs, m, h1, h2, h3, h4, k⟩ => ⟨[], vs, rfl, rfl, Nat.le_trans (by rw [h1.1]; have := Nat.le_mul_of_pos_right qs.length (show 0 < m + 1 by omega); omega : vs.length ≤ 4000) (by decide), fun p hp => ⟨p, vs, qs, m, rfl, tupS, h1.x0 (Ext.refl.new hp), h2, h3, h4, fun v H' e a => k v H' ((Ext.refl.new hp).trans e) a⟩⟩
  · obtain ⟨t, xs, qs, m, rfl, ht, ha, hz, hm, hl, k⟩ := h
    have nd := c_plus.nd
    obtain ⟨z, mz, TZ⟩ := TZ
    refine ⟨_, (pss_cons (ps_set (i := 1) nd rfl (by first | exact Or.inl rfl | exact Or.inr rfl) (pe_glob (v := .ref z) rfl mz rfl))
      (pss_cons (ps_for PassesOwn.never rfl (pi_tup (pv 0)) (pg_name (i := 2) nd rfl (by first | exact Or.inl rfl | exact Or.inr rfl))
        (pss_one (ps_set (i := 1) nd rfl (by first | exact Or.inl rfl | exact Or.inr rfl) (pe_fn F_added (hr.mono (by decide)) (pa_cons (pv 1) (pa_cons (pv 2) pa_nil))))))
      (pss_one (ps_ret (pv 1))))), ?_⟩
    show (_ : TS) _ [some _, none, none] _
    try dsimp only [cxOf, Cx.nox]
    walk_at "go"
    refine r_forT rfl ht (fun i σ H1 => Ext [] H H1 ∧ ∃ fv u, σ = [some (.ref t), some fv, u] ∧ Am K H1 fv (sumQ (qs.take i))) ⟨Ext.refl, _, _, rfl, ⟨z, rfl, TZ _⟩⟩ (fun i σ H1 _ h => tup0 h.1 ht) ?_ ?_
    · rintro i x σ H1 hx ⟨e1, fv, u, rfl, hf⟩
      have hi : i < qs.length := by rw [← ha.1]; exact (List.getElem?_eq_some_iff.mp hx).1
      have hq : qs[i]? = some qs[i] := List.getElem?_eq_getElem hi
      have hb := sumQ_sz i hz (by omega)
      have hsz : 1 + i * (m + 1) ≤ 4000 := Nat.le_trans (by have := Nat.mul_le_mul_right (m + 1) (Nat.le_of_lt hi); omega) hl
      walk_at "go"
      refine ⟨_, _, _, qs[i], rfl, hf, (ha.2 i x _ hx hq).x0 e1, hb.mono hsz, (hz _ (List.getElem_mem hi)).mono hm, fun v H' e a => ?_⟩
      walk_at "go"
      refine ⟨e1.trans e, _, _, rfl, ?_⟩
      rw [sumQ_take hq]
      exact a
    · rintro σ H1 ⟨e1, fv, u, rfl, hf⟩
      walk_at "go"
      rw [ha.1, List.take_length] at hf
      exact k _ _ e1 hf
end
end Yk

set_option maxHeartbeats 1000000
namespace Yk
open PySem PySem.Spec PyProof.Rows L2

section
variable {P : Program} {w : World} {K : PySem.W.Frag} {mg : Str → Option Value} {base : Heap} {f : Addr} {fd : FuncData}
def spMinT (F : Rat → List Rat → Rat) (K : PySem.W.Frag) : Sp := fun vs H Q _ => ∃ v0 q0 t xs qs, vs = [v0, V.ref t] ∧ Am K H v0 q0 ∧ Sz 4000 q0 ∧ SqT K H t xs ∧ Ams K H xs qs ∧ (∀ q ∈ qs, Sz 4000 q) ∧ RetAm K H Q (F q0 qs)
def spMin (F : Rat → List Rat → Rat) (K : PySem.W.Frag) : Sp := fun vs H Q _ => ∃ q0 qs, Ams K H vs (q0 :: qs) ∧ (∀ q ∈ q0 :: qs, Sz 4000 q) ∧ qs.length ≤ 4000 ∧ RetAm K H Q (F q0 qs)
theorem spMin_imp {F : Rat → List Rat → Rat} : ∀ vs H Q E, spMin F K vs H Q E → ∃ ws rest, vs = ws ++ rest ∧ ws.length = (["first"] : List Str).length ∧ rest.length ≤ sizeLine ∧ ∀ p, H p = none → spMinT F K (ws ++ [V.ref p]) (upd H p (.tup rest)) Q E := by
  rintro vs H Q E ⟨q0, qs, h1, h2, h3, k⟩
  cases vs with
  | nil => exact absurd h1.1 (by simp)
  | cons v0 rest =>
    have hl : rest.length = qs.length := by simpa using h1.1
    have h4 : Ams K H rest qs := ⟨hl, fun i v q a b => h1.2 (i + 1) v q (by simpa using a) (by simpa using b)⟩
    refine ⟨[v0], rest, rfl, rfl, Nat.le_trans (by omega : rest.length ≤ 4000) (by decide), fun p hp => ⟨v0, q0, p, rest, qs, rfl, (h1.2 0 v0 q0 rfl rfl).x0 (Ext.refl.new hp), h2 q0 List.mem_cons_self, tupS, h4.x0 (Ext.refl.new hp), fun q hq => h2 q (List.mem_cons_of_mem _ hq), fun v H' e a => k v H' ((Ext.refl.new hp).trans e) a⟩⟩
theorem cmp_lt (p q : Rat) : cmpQ p q < 0 ↔ p < q := by
  unfold cmpQ
  by_cases h : p < q
  · rw [if_pos h]; exact ⟨fun _ => h, fun _ => by decide⟩
  · rw [if_neg h]
    refine ⟨fun z => ?_, fun z => absurd z h⟩
    split at z <;> omega
theorem cmp_gt (p q : Rat) : 0 < cmpQ p q ↔ q < p := by
  unfold cmpQ
  by_cases h : p < q
  · rw [if_pos h]
    exact ⟨fun z => by omega, fun z => absurd (Rat.le_of_lt h) (Rat.not_le.mpr z)⟩
  · rw [if_neg h]
    by_cases h2 : q < p
    · rw [if_pos h2]; exact ⟨fun _ => h2, fun _ => by decide⟩
    · rw [if_neg h2]; exact ⟨fun z => by omega, fun z => absurd z h2⟩
abbrev s_smallest : Stmt := top 22
theorem c_smallest : FnScope ["first", "others", "found", "other"] ["first", "others"] (defScope s_smallest) := ⟨rfl, rfl, rfl, by decide +kernel, rfl, by decide +kernel, by decide +kernel⟩
theorem f_smallest (F : FunD K "smallest" "smallest" (defArgs s_smallest) (defBody s_smallest) (defScope s_smallest) [] [] f fd) (hm : mg "smallest" = some (.ref f)) (Fcompare : Fn P w K mg base 1 "compare" (spCompare K)) : Fn P w K mg base 2 "smallest" (spMin minQ K) := by
  refine fn_star (ps := ["first"]) (pv := "others") (sp := spMinT minQ K) F hm c_smallest (fun _ _ _ _ _ _ us rest hl => match us, rest, hl with | [_], [], _ => rfl | [_], _ :: _, _ => rfl) (fun cdv A outer s H vs Q E hr h => ?_) ?himp
  case himp =>
    exact spMin_imp
  · obtain ⟨v0, q0, t, xs, qs, rfl, h0, z0, ht, ha, hz, k⟩ := h
    have nd := c_smallest.nd
    refine ⟨_, (pss_cons (ps_set (i := 2) nd rfl (by first | exact Or.inl rfl | exact Or.inr rfl) (pv 0))
      (pss_cons (ps_for PassesOwn.never rfl (pi_tup (pv 1)) (pg_name (i := 3) nd rfl (by first | exact Or.inl rfl | exact Or.inr rfl))
        (pss_one (ps_if (pt_cmpR op_lt (pe_fn Fcompare (hr.mono (by decide)) (pa_cons (pv 3) (pa_cons (pv 2) pa_nil))) pe_int (nomark _))
          (pss_one (ps_set (i := 2) nd rfl (by first | exact Or.inl rfl | exact Or.inr rfl) (pv 3)))
          pss_nil)))
      (pss_one (ps_ret (pv 2))))), ?_⟩
    show (_ : TS) _ [some _, some _, none, none] _
    try dsimp only [cxOf, Cx.nox]
    walk_at "go"
    refine r_forT rfl ht (fun i σ H1 => H1 = H ∧ ∃ fv u, σ = [some v0, some (.ref t), some fv, u] ∧ Am K H fv (minQ q0 (qs.take i))) ⟨rfl, _, _, rfl, h0⟩ (fun i σ H1 _ h => h.1 ▸ ht) ?_ ?_
    · rintro i x σ H1 hx ⟨rfl, fv, u, rfl, hf⟩
      obtain ⟨q, hq, hxq⟩ := ha.at_ hx
      have sf : Sz 4000 (minQ q0 (qs.take i)) := minQ_mem z0 fun y hy => hz y (List.mem_of_mem_take hy)
      walk_at "go"
      refine ⟨_, _, q, _, rfl, hxq, hf, hz q (List.mem_of_getElem? hq), sf, ?_⟩
      walk_at "go"
      refine r_dec (fun hlt => ?_) (fun hge => ?_)
      · walk_at "go"
        refine ⟨rfl, _, _, rfl, ?_⟩
        unfold minQ
        rw [fold_take hq]
        show Am K H1 x (if q < minQ q0 (qs.take i) then q else minQ q0 (qs.take i))
        rw [if_pos ((cmp_lt _ _).mp hlt)]
        exact hxq
      · walk_at "go"
        refine ⟨rfl, _, _, rfl, ?_⟩
        unfold minQ
        rw [fold_take hq]
        show Am K H1 fv (if q < minQ q0 (qs.take i) then q else minQ q0 (qs.take i))
        rw [if_neg fun z => hge ((cmp_lt _ _).mpr z)]
        exact hf
    · rintro σ H1 ⟨rfl, fv, u, rfl, hf⟩
      walk_at "go"
      rw [ha.1, List.take_length] at hf
      exact k _ _ Ext.refl hf
abbrev s_largest : Stmt := top 23
theorem c_largest : FnScope ["first", "others", "found", "other"] ["first", "others"] (defScope s_largest) := ⟨rfl, rfl, rfl, by decide +kernel, rfl, by decide +kernel, by decide +kernel⟩
theorem f_largest (F : FunD K "largest" "largest" (defArgs s_largest) (defBody s_largest) (defScope s_largest) [] [] f fd) (hm : mg "largest" = some (.ref f)) (Fcompare : Fn P w K mg base 1 "compare" (spCompare K)) : Fn P w K mg base 2 "largest" (spMin maxQ K) := by
  refine fn_star (ps := ["first"]) (pv := "others") (sp := spMinT maxQ K) F hm c_largest (fun _ _ _ _ _ _ us rest hl => match us, rest, hl with | [_], [], _ => rfl | [_], _ :: _, _ => rfl) (fun cdv A outer s H vs Q E hr h => ?_) ?himp
  case himp =>
    exact spMin_imp
  · obtain ⟨v0, q0, t, xs, qs, rfl, h0, z0, ht, ha, hz, k⟩ := h
    have nd := c_largest.nd
    refine ⟨_, (pss_cons (ps_set (i := 2) nd rfl (by first | exact Or.inl rfl | exact Or.inr rfl) (pv 0))
      (pss_cons (ps_for PassesOwn.never rfl (pi_tup (pv 1)) (pg_name (i := 3) nd rfl (by first | exact Or.inl rfl | exact Or.inr rfl))
        (pss_one (ps_if (pt_cmpR op_gt (pe_fn Fcompare (hr.mono (by decide)) (pa_cons (pv 3) (pa_cons (pv 2) pa_nil))) pe_int (nomark _))
          (pss_one (ps_set (i := 2) nd rfl (by first | exact Or.inl rfl | exact Or.inr rfl) (pv 3)))
          pss_nil)))
      (pss_one (ps_ret (pv 2))))), ?_⟩
    show (_ : TS) _ [some _, some _, none, none] _
    try dsimp only [cxOf, Cx.nox]
    walk_at "go"
    refine r_forT rfl ht (fun i σ H1 => H1 = H ∧ ∃ fv u, σ = [some v0, some (.ref t), some fv, u] ∧ Am K H fv (maxQ q0 (qs.take i))) ⟨rfl, _, _, rfl, h0⟩ (fun i σ H1 _ h => h.1 ▸ ht) ?_ ?_
    · rintro i x σ H1 hx ⟨rfl, fv, u, rfl, hf⟩
      obtain ⟨q, hq, hxq⟩ := ha.at_ hx
      have sf : Sz 4000 (maxQ q0 (qs.take i)) := maxQ_mem z0 fun y hy => hz y (List.mem_of_mem_take hy)
      walk_at "go"
      refine ⟨_, _, q, _, rfl, hxq, hf, hz q (List.mem_of_getElem? hq), sf, ?_⟩
      walk_at "go"
      refine r_dec (fun hlt => ?_) (fun hge => ?_)
      · walk_at "go"
        refine ⟨rfl, _, _, rfl, ?_⟩
        unfold maxQ
        rw [fold_take hq]
        show Am K H1 x (if maxQ q0 (qs.take i) < q then q else maxQ q0 (qs.take i))
        rw [if_pos ((cmp_gt _ _).mp hlt)]
        exact hxq
      · walk_at "go"
        refine ⟨rfl, _, _, rfl, ?_⟩
        unfold maxQ
        rw [fold_take hq]
        show Am K H1 fv (if maxQ q0 (qs.take i) < q then q else maxQ q0 (qs.take i))
        rw [if_neg fun z => hge ((cmp_gt _ _).mpr z)]
        exact hf
    · rintro σ H1 ⟨rfl, fv, u, rfl, hf⟩
      walk_at "go"
      rw [ha.1, List.take_length] at hf
      exact k _ _ Ext.refl hf
def spPair (K : PySem.W.Frag) : Sp := fun vs H Q _ => ∃ a b : Nat, vs = [.int (a : Int), .int (b : Int)] ∧ 0 < b ∧ a < 2 ^ 8900 ∧ b < 2 ^ 8900 ∧ RetAm K H Q (mkRat (a : Int) b)
end
end Yk

set_option maxHeartbeats 1000000
namespace Yk
open PySem PySem.Spec PyProof.Rows L2

section
variable {P : Program} {w : World} {K : PySem.W.Frag} {mg : Str → Option Value} {base : Heap} {f : Addr} {fd : FuncData}
theorem szd {n : Nat} {q : Rat} (h : Sz n q) : (q.den : Int).natAbs < 2 ^ n := h.2
theorem mulz {m n : Nat} {i j : Int} (hi : i.natAbs < 2 ^ m) (hj : j.natAbs < 2 ^ n) : (i * j).natAbs < 2 ^ (m + n) := wide_lt hi hj
/-- amounts are not below nought: their first numbers are natural -/
theorem num_nat {q : Rat} (h : 0 ≤ q) : q.num = ((q.num.toNat : Nat) : Int) := (Int.toNat_of_nonneg (num_nn h)).symm
theorem pos_num {q : Rat} (h : 0 < q) : 0 < q.num.toNat := by have := num_pos' h; omega
theorem mk_add (p q : Rat) : mkRat (p.num * q.den + q.num * p.den) (p.den * q.den) = p + q := by rw [Rat.add_def, Rat.normalize_eq_mkRat]
theorem mk_mul (p q : Rat) : mkRat (p.num * q.num) (p.den * q.den) = p * q := by rw [Rat.mul_def, Rat.normalize_eq_mkRat]
def spMore (K : PySem.W.Frag) : Sp := fun vs H Q _ => ∃ v1 v2 p q, vs = [v1, v2] ∧ Am K H v1 p ∧ Am K H v2 q ∧ Sz 4000 p ∧ Sz 4000 q ∧ Q (.bl (decide (q < p))) H
/-- two amounts, of at most 2000 bits, to one -/
def sp2 (ok : Rat → Rat → Prop) (F : Rat → Rat → Rat) (K : PySem.W.Frag) : Sp := fun vs H Q _ => ∃ v1 v2 p q, vs = [v1, v2] ∧ Am K H v1 p ∧ Am K H v2 q ∧ Sz 4000 p ∧ Sz 4000 q ∧ 0 ≤ p ∧ 0 ≤ q ∧ ok p q ∧ RetAm K H Q (F p q)
theorem mk_quot {p q : Rat} (hq : 0 < q) : mkRat (p.num * q.den) (p.den * q.num.toNat) = p / q := by
  obtain ⟨i1, i2⟩ := inv_parts hq
  have e : q⁻¹.den = q.num.toNat := by omega
  rw [Rat.div_def, ← mk_mul, i1, e]
end
end Yk

set_option maxHeartbeats 1000000
namespace Yk
open PySem PySem.Spec PyProof.Rows L2

section
variable {P : Program} {w : World} {K : PySem.W.Frag} {mg : Str → Option Value} {base : Heap} {f : Addr} {fd : FuncData}
def lmin (p q : Rat) : Rat := if q < p then q else p
def lmax (p q : Rat) : Rat := if q < p then p else q
def spOrder (K : PySem.W.Frag) : Sp := fun vs H Q _ => ∃ v1 v2 p q, vs = [v1, v2] ∧ Am K H v1 p ∧ Am K H v2 q ∧ Sz 4000 p ∧ Sz 4000 q ∧ Q (.int (cmpQ p q)) H
theorem sumQ_nn : ∀ {qs : List Rat} {z : Rat}, 0 ≤ z → (∀ q ∈ qs, 0 ≤ q) → 0 ≤ qs.foldl (· + ·) z
  | [], z, h, _ => h
  | q :: r, z, h, hq => sumQ_nn (qs := r) (z := z + q) (Rat.add_nonneg h (hq q List.mem_cons_self)) fun x hx => hq x (List.mem_cons_of_mem _ hx)
def spSum (K : PySem.W.Frag) : Sp := fun vs H Q _ => ∃ t xs qs m, vs = [V.ref t] ∧ SqL K H t xs ∧ Ams K H xs qs ∧ (∀ q ∈ qs, Sz m q) ∧ (∀ q ∈ qs, 0 ≤ q) ∧ m ≤ 4000 ∧ 1 + qs.length * (m + 1) ≤ 4000 ∧ RetAm K H Q (sumQ qs)
end
end Yk

set_option maxHeartbeats 2000000
namespace Yk
open PySem PySem.Spec PyProof.Rows L2

section
variable {P : Program} {w : World} {K : PySem.W.Frag} {mg : Str → Option Value} {base : Heap} {f : Addr} {fd : FuncData}
theorem lst_upd {K : PySem.W.Frag} {H : Hp} {a b : Addr} {o : HO} {xs l : List V} (h : SqL K H a xs) (hb : H b = some (.lst l)) (hd : xs ≠ l) : SqL K (upd H b o) a xs := by
  rcases h with (h | ⟨u, h⟩) | h
  · exact .inl (.inl (by rw [upd_ne (fun z => hd (by rw [z, hb] at h; cases h; rfl))]; exact h))
  · exact .inl (.inr ⟨u, by rw [upd_ne (fun z => by rw [z, hb] at h; cases h)]; exact h⟩)
  · exact .inr h
theorem ns_ne (ns : List Int) (it : Addr) (l : List V) : ns.map V.int ≠ .ref it :: l := by
  cases ns with
  | nil => intro h; cases h
  | cons n r => intro h; cases h
theorem cpow {i : Int} {j : Int} (h0 : 0 ≤ j) (h1 : j ≤ 1000000) (h : i.natAbs < 2 ^ 64) : CPow i j := ⟨h0, h1, h⟩
theorem cdivc (i : Int) : CDivW i 97 := ⟨by decide, by decide +kernel⟩
def spDraw (K : PySem.W.Frag) : Sp := fun vs H Q _ => ∃ (b : Bag) (n : Int), vs = [.ref b.a, .int n] ∧ 0 < n ∧ n < 2 ^ 400 ∧ BagAt K H b ∧ ∀ (x : Int) H', 0 ≤ x → x < n → BagAt K H' b → Ext [b.a] H H' → Q (.int x) H'
theorem at_map {ns : List Int} {i : Nat} (h : i < ns.length) : atI (ns.map V.int) (i : Int) = some (.int ns[i]) := atI_nat (by rw [List.getElem?_map, List.getElem?_eq_getElem h] <;> rfl)
theorem bag_ex {K : PySem.W.Frag} {H : Hp} {b it : Addr} {ns : List Int} {pos : Nat} {rest seed cnt : Int} (hb : H b = some (.lst [.ref it, .int (pos : Int), .int rest, .int seed, .int cnt])) (hi : SqL K H it (ns.map V.int)) (hns : ns.length ≤ 63)
    (hp : pos ≤ ns.length) (hr : 0 ≤ rest) (h0 : 0 ≤ seed) (h1 : seed < 2147483629) : BagAt K H ⟨b, it, ns⟩ := ⟨_, hb, hi, hns, pos, rest, seed, cnt, rfl, hp, hr, h0, h1⟩
theorem modI (a : Int) {n : Int} (h : 0 < n) : 0 ≤ a % n ∧ a % n < n := ⟨Int.emod_nonneg a (by omega), Int.emod_lt_of_pos a h⟩
end
end Yk

set_option maxHeartbeats 2000000
namespace Yk
open PySem PySem.Spec PyProof.Rows L2

section
variable {P : Program} {w : World} {K : PySem.W.Frag} {mg : Str → Option Value} {base : Heap} {f : Addr} {fd : FuncData}
theorem cut_all {xs : List V} (h : xs.length ≤ 63) : cutV xs none (some 63) = xs := by
  unfold cutV
  rw [show HT.sIx xs.length 0 none = 0 from rfl, show HT.sIx xs.length xs.length (some 63) = min 63 xs.length from HT.sIx_nat _ _ 63, List.drop_zero, Nat.min_eq_right h]
  simp
def spBag (K : PySem.W.Frag) : Sp := fun vs H Q _ => ∃ (a : Addr) (ns : List Int), vs = [.ref a] ∧ SqL K H a (ns.map V.int) ∧ ns.length ≤ 63 ∧ ∀ (b : Bag) H', H b.a = none → Ext [] H H' → BagAt K H' b → Q (.ref b.a) H'
/-- one of a row of things: what is told of all of them is told of it -/
def spOf (K : PySem.W.Frag) : Sp := fun vs H Q _ => ∃ (b : Bag) (l : Addr) (xs : List V), vs = [.ref b.a, .ref l] ∧ BagAt K H b ∧ SqL K H l xs ∧ b.a ≠ l ∧ 0 < xs.length ∧ xs.length ≤ 4000 ∧ ∀ (i : Nat) (x : V) H', xs[i]? = some x → BagAt K H' b → Ext [b.a] H H' → Q x H'
abbrev s_law_of : Stmt := top 54
theorem c_law_of : FnScope ["_law_bag_here", "_law_things"] ["_law_bag_here", "_law_things"] (defScope s_law_of) := ⟨rfl, rfl, rfl, by decide +kernel, rfl, by decide +kernel, by decide +kernel⟩
theorem f_law_of (F : FunD K "_law_of" "_law_of" (defArgs s_law_of) (defBody s_law_of) (defScope s_law_of) [] [] f fd) (hm : mg "_law_of" = some (.ref f)) (T : Bt mg) (F_law_draw : Fn P w K mg base 1 "_law_draw" (spDraw K)) : Fn P w K mg base 2 "_law_of" (spOf K) := by
  refine fn_def F hm c_law_of (fun vs H Q E h => ?_) (fun _ _ _ _ _ _ us hl => match us, hl with | [_, _], _ => rfl) (fun cdv A outer s H vs Q E hr h => ?_)
  · obtain ⟨b, l, xs, rfl, _⟩ := h
    rfl
  · obtain ⟨b, l, xs, rfl, hb, hl, hne, h0, h4, k⟩ := h
    have nd := c_law_of.nd
    refine ⟨_, (pss_one (ps_ret (pe_ix ix_list (pv 1) (pe_fn F_law_draw (hr.mono (by decide)) (pa_cons (pv 0) (pa_cons (pe_callB cr_len (by rfl) T.len (by decide +kernel) (pa_cons (pv 1) pa_nil)) pa_nil))) (fun _ _ => rfl)))), ?_⟩
    show (_ : TS) _ [some _, some _] _
    try dsimp only [cxOf, Cx.nox]
    walk_at "go"
    refine ⟨b, _, rfl, by omega, Int.lt_of_le_of_lt (by omega : (xs.length : Int) ≤ 4000) (by decide), hb, fun x H' x0 x1 hb' e => ?_⟩
    have hl' : SqL K H' l xs := lstX e hl (by simpa using fun z => hne z.symm)
    have hx : x.toNat < xs.length := by omega
    refine r_ixL hl' (v := xs[x.toNat]) ?_ (k x.toNat _ H' (List.getElem?_eq_getElem hx) hb' e)
    have e2 : x = ((x.toNat : Nat) : Int) := by omega
    exact at_of e2 (List.getElem?_eq_getElem hx)
end
end Yk

set_option maxHeartbeats 4000000
namespace Yk
open PySem PySem.Spec PyProof.Rows L2

section
variable {P : Program} {w : World} {K : PySem.W.Frag} {mg : Str → Option Value} {base : Heap} {f : Addr} {fd : FuncData}
theorem of_am {K : PySem.W.Frag} {H : Hp} {b : Bag} {l : Addr} {xs : List V} {qs : List Rat} {Q : VK} {E : XK} (hb : BagAt K H b) (hl : SqL K H l xs) (hne : b.a ≠ l) (ha : Ams K H xs qs) (h0 : 0 < qs.length) (h4 : qs.length ≤ 4000)
    (k : ∀ v q H', q ∈ qs → Am K H' v q → BagAt K H' b → Ext [b.a] H H' → Q v H') : spOf K [.ref b.a, .ref l] H Q E :=
  ⟨b, l, xs, rfl, hb, hl, hne, by rw [ha.1]; exact h0, by rw [ha.1]; exact h4, fun i x H' hx hb' e => by
    obtain ⟨q, hq, hm⟩ := ha.at_ hx
    exact k x q H' (List.mem_of_getElem? hq) (hm.b hb e) hb' e⟩
theorem mulp {i j a b : Int} (i0 : 0 ≤ i) (i1 : i < a) (j0 : 0 ≤ j) (j1 : j < b) (ha : a ≤ 2 ^ 400) (hb : b ≤ 2 ^ 400) : CMulW i j := by
  refine cmul (m := 401) (n := 401) ?_ ?_ (by decide) (by decide) (by decide)
  · have : (2 : Nat) ^ 400 < 2 ^ 401 := by decide
    have : ((2 : Nat) ^ 400 : Int) = 2 ^ 400 := by norm_cast
    omega
  · have : (2 : Nat) ^ 400 < 2 ^ 401 := by decide
    have : ((2 : Nat) ^ 400 : Int) = 2 ^ 400 := by norm_cast
    omega
theorem e10 : (10 : Int) ^ Int.toNat 10 = 10000000000 := by decide
theorem e4 : (10 : Int) ^ Int.toNat 4 = 10000 := by decide
theorem e9 : (10 : Int) ^ Int.toNat 9 = 1000000000 := by decide
def spGreat (K : PySem.W.Frag) : Sp := fun vs H Q _ => ∃ b, vs = [.ref b.a] ∧ BagAt K H b ∧ ∀ (x : Int) H', 0 ≤ x → x < 2 ^ 114 → BagAt K H' b → Ext [b.a] H H' → Q (.int x) H'
theorem pair_am {a b : Nat} {m : Nat} (ha : a < 2 ^ m) (hb : 0 < b) (hb2 : b < 2 ^ m) : Sz m (mkRat (a : Int) b) ∧ 0 ≤ mkRat (a : Int) b := ⟨sz_mk hb rfl (by simpa using ha) hb2, mk_nn a b⟩
def spAmt (K : PySem.W.Frag) : Sp := fun vs H Q _ => ∃ b, vs = [.ref b.a] ∧ BagAt K H b ∧ ∀ v q H', Am K H' v q → 0 ≤ q → Sz 114 q → BagAt K H' b → Ext [b.a] H H' → Q v H'
/-- a bit: a whole number of twelfths, at most 12 -/
def spBit (K : PySem.W.Frag) : Sp := fun vs H Q _ => ∃ b, vs = [.ref b.a] ∧ BagAt K H b ∧ ∀ v (n d : Nat) H', n ≤ 12 → 0 < d → d ∣ 12 → Am K H' v (mkRat (n : Int) d) → BagAt K H' b → Ext [b.a] H H' → Q v H'
theorem spBit_amt {H : Hp} {b : Bag} {Q : VK} {E : XK} (hb : BagAt K H b) (k : ∀ v q H', Am K H' v q → 0 ≤ q → Sz 114 q → BagAt K H' b → Ext [b.a] H H' → Q v H') : spBit K [.ref b.a] H Q E :=
  ⟨b, rfl, hb, fun v n d H' hn d0 hd a b' e => by
    obtain ⟨z1, z2⟩ := pair_am (m := 114) (Nat.lt_of_le_of_lt hn (by decide)) d0 (Nat.lt_of_le_of_lt (Nat.le_of_dvd (by decide) hd) (by decide))
    exact k v _ H' a z2 z1 b' e⟩
theorem sz_lit {n : Int} {d m : Nat} (hd : d ≠ 0) (hc : n.natAbs.Coprime d) (h1 : n.natAbs < 2 ^ m) (h2 : d < 2 ^ m) : Sz m ⟨n, d, hd, hc⟩ := ⟨h1, h2⟩
theorem nn_lit {n : Int} {d : Nat} (hd : d ≠ 0) (hc : n.natAbs.Coprime d) (h : 0 ≤ n) : (0 : Rat) ≤ ⟨n, d, hd, hc⟩ := Rat.num_nonneg.mp h
def nine : List Rat := [⟨0, 1, by decide, by decide⟩, ⟨1, 1, by decide, by decide⟩, ⟨1000, 1, by decide, by decide⟩, ⟨1, 12, by decide, by decide⟩, ⟨999, 1, by decide, by decide⟩, ⟨1001, 1, by decide, by decide⟩, ⟨12001, 12, by decide, by decide⟩, ⟨1, 13, by decide, by decide⟩, ⟨2, 1, by decide, by decide⟩]
theorem nine_all : ∀ q ∈ nine, 0 ≤ q ∧ Sz 114 q := by
  intro q hq
  unfold nine at hq
  simp only [List.mem_cons, List.not_mem_nil, or_false] at hq
  rcases hq with rfl | rfl | rfl | rfl | rfl | rfl | rfl | rfl | rfl <;> exact ⟨nn_lit _ _ (by decide), sz_lit _ _ (by decide) (by decide)⟩
end
end Yk

set_option maxHeartbeats 4000000
namespace Yk
open PySem PySem.Spec PyProof.Rows L2

section
variable {P : Program} {w : World} {K : PySem.W.Frag} {mg : Str → Option Value} {base : Heap} {f : Addr} {fd : FuncData}
theorem perm_erase : ∀ {xs : List V} {i : Nat} (h : i < xs.length), (xs[i] :: xs.eraseIdx i).Perm xs
  | a :: r, 0, _ => List.Perm.refl _
  | a :: r, i + 1, h => ((List.Perm.swap a _ _)).trans ((perm_erase (xs := r) (i := i) (by simpa using h)).cons a)
/-- a new list with the same things -/
def spMixed (K : PySem.W.Frag) : Sp := fun vs H Q _ => ∃ (b : Bag) (l : Addr) (xs : List V), vs = [.ref b.a, .ref l] ∧ BagAt K H b ∧ SqL K H l xs ∧ b.a ≠ l ∧ xs.length ≤ 4000 ∧ ∀ (p : Addr) (ys : List V) H', ys.Perm xs → H p = none → H' p = some (.lst ys) → BagAt K H' b → Ext [b.a] H H' → Q (.ref p) H'
end
end Yk

set_option maxHeartbeats 4000000
namespace Yk
open PySem PySem.Spec PyProof.Rows L2

section
variable {P : Program} {w : World} {K : PySem.W.Frag} {mg : Str → Option Value} {base : Heap} {f : Addr} {fd : FuncData}
/-- two rows of one length, from three to six -/
theorem row_cases {C : List V → List Rat → Prop} {xs : List V} {qs : List Rat} (hl : xs.length = qs.length) (h3 : 3 ≤ qs.length) (h6 : qs.length ≤ 6)
    (c3 : ∀ v0 v1 v2 q0 q1 q2, C [v0, v1, v2] [q0, q1, q2]) (c4 : ∀ v0 v1 v2 v3 q0 q1 q2 q3, C [v0, v1, v2, v3] [q0, q1, q2, q3])
    (c5 : ∀ v0 v1 v2 v3 v4 q0 q1 q2 q3 q4, C [v0, v1, v2, v3, v4] [q0, q1, q2, q3, q4]) (c6 : ∀ v0 v1 v2 v3 v4 v5 q0 q1 q2 q3 q4 q5, C [v0, v1, v2, v3, v4, v5] [q0, q1, q2, q3, q4, q5]) : C xs qs := by
  match xs, qs, hl, h3, h6 with
  | [], qs, h, h3, _ => simp at h; omega
  | [_], qs, h, h3, _ => simp at h; omega
  | [_, _], qs, h, h3, _ => simp at h; omega
  | [v0, v1, v2], [q0, q1, q2], _, _, _ => exact c3 ..
  | [v0, v1, v2, v3], [q0, q1, q2, q3], _, _, _ => exact c4 ..
  | [v0, v1, v2, v3, v4], [q0, q1, q2, q3, q4], _, _, _ => exact c5 ..
  | [v0, v1, v2, v3, v4, v5], [q0, q1, q2, q3, q4, q5], _, _, _ => exact c6 ..
  | _ :: _ :: _ :: _ :: _ :: _ :: _ :: _, _ :: _ :: _ :: _ :: _ :: _ :: _ :: _, _, _, h => simp at h; try omega
def spSums (K : PySem.W.Frag) : Sp := fun vs H Q _ => ∃ r xs qs, vs = [V.ref r] ∧ SqL K H r xs ∧ Ams K H xs qs ∧ 3 ≤ qs.length ∧ qs.length ≤ 6 ∧ (∀ q ∈ qs, Sz 114 q) ∧ RetAm K H Q (sumQ qs)
def spEnds (K : PySem.W.Frag) : Sp := fun vs H Q _ => ∃ r xs q0 qs, vs = [V.ref r] ∧ SqL K H r xs ∧ Ams K H xs (q0 :: qs) ∧ 3 ≤ (q0 :: qs).length ∧ (q0 :: qs).length ≤ 6 ∧ (∀ q ∈ q0 :: qs, Sz 114 q) ∧
  ∀ p v1 v2 H', H p = none → H' p = some (.lst [v1, v2]) → Am K H' v1 (minQ q0 qs) → Am K H' v2 (maxQ q0 qs) → Ext [] H H' → Q (.ref p) H'
def endsK (K : PySem.W.Frag) (H : Hp) (Q : VK) (qs : List Rat) : Prop := ∀ p v1 v2 H', H p = none → H' p = some (.lst [v1, v2]) → Am K H' v1 (minQ (qs.headD 0) qs.tail) → Am K H' v2 (maxQ (qs.headD 0) qs.tail) → Ext [] H H' → Q (.ref p) H'
end
end Yk

set_option maxHeartbeats 4000000
namespace Yk
open PySem PySem.Spec PyProof.Rows L2

section
variable {P : Program} {w : World} {K : PySem.W.Frag} {mg : Str → Option Value} {base : Heap} {f : Addr} {fd : FuncData}
/-! rows by their sizes, in any order -/
inductive Szs : Nat → List Rat → Prop where
  | nil : Szs 0 []
  | cons {m B : Nat} {q : Rat} {ps : List Rat} (h : Sz m q) (r : Szs B ps) : Szs (B + (m + 1)) (q :: ps)
theorem Szs.perm {l l' : List Rat} (p : l.Perm l') : ∀ {B : Nat}, Szs B l → Szs B l' := by
  induction p with
  | nil => exact fun h => h
  | cons x _ ih =>
    intro B h
    cases h with
    | cons h r => exact .cons h (ih r)
  | swap x y l =>
    intro B h
    cases h with
    | cons h r =>
      cases r with
      | cons h2 r =>
        rename_i m1 m2 B2
        have := Szs.cons h2 (Szs.cons h r)
        rw [show B2 + (m2 + 1) + (m1 + 1) = B2 + (m1 + 1) + (m2 + 1) by omega]
        exact this
  | trans _ _ ih1 ih2 => exact fun h => ih2 (ih1 h)
theorem Szs.all : ∀ {l : List Rat} {m : Nat}, (∀ q ∈ l, Sz m q) → Szs (l.length * (m + 1)) l
  | [], m, _ => by simpa using Szs.nil
  | q :: r, m, h => by
    have := Szs.cons (h q List.mem_cons_self) (Szs.all (l := r) (m := m) fun x hx => h x (List.mem_cons_of_mem _ hx))
    rw [List.length_cons, Nat.add_mul, Nat.one_mul]
    exact this
def opR (g : Rat → Rat → Rat) (z : Rat) (l : List Rat) : Rat := l.foldr g z
theorem opR_perm {g : Rat → Rat → Rat} {z : Rat} (hg : ∀ a b c, g a (g b c) = g b (g a c)) {l l' : List Rat} (p : l.Perm l') : opR g z l = opR g z l' := by
  induction p with
  | nil => rfl
  | cons x _ ih => exact congrArg (g x) ih
  | swap x y l => exact hg _ _ _
  | trans _ _ h1 h2 => exact h1.trans h2
theorem sumQ_R (l : List Rat) : sumQ l = opR (· + ·) 0 l := by
  have h : ∀ (l : List Rat) (z : Rat), l.foldl (· + ·) z = z + opR (· + ·) 0 l := by
    intro l
    induction l with
    | nil => intro z; show z = z + 0; rw [Rat.add_zero]
    | cons a r ih =>
      intro z
      show r.foldl (· + ·) (z + a) = z + (a + opR (· + ·) 0 r)
      rw [ih, Rat.add_assoc]
  unfold sumQ
  rw [h, Rat.zero_add]
theorem sumQ_perm {l l' : List Rat} (p : l.Perm l') : sumQ l = sumQ l' := by
  rw [sumQ_R, sumQ_R]
  exact opR_perm (fun a b c => by rw [← Rat.add_assoc, Rat.add_comm a b, Rat.add_assoc]) p
def prodQ (qs : List Rat) : Rat := qs.foldl (· * ·) 1
theorem prodQ_R (l : List Rat) : prodQ l = opR (· * ·) 1 l := by
  have h : ∀ (l : List Rat) (z : Rat), l.foldl (· * ·) z = z * opR (· * ·) 1 l := by
    intro l
    induction l with
    | nil => intro z; show z = z * 1; rw [Rat.mul_one]
    | cons a r ih =>
      intro z
      show r.foldl (· * ·) (z * a) = z * (a * opR (· * ·) 1 r)
      rw [ih, Rat.mul_assoc]
  unfold prodQ
  rw [h, Rat.one_mul]
theorem Ams.erase {H : Hp} {xs : List V} {qs : List Rat} (h : Ams K H xs qs) (i : Nat) : Ams K H (xs.eraseIdx i) (qs.eraseIdx i) := by
  refine ⟨by rw [List.length_eraseIdx, List.length_eraseIdx, h.1], fun j v q a b => ?_⟩
  rw [List.getElem?_eraseIdx] at a b
  split at a
  · rename_i hj
    rw [if_pos hj] at b
    exact h.2 j v q a b
  · rename_i hj
    rw [if_neg hj] at b
    exact h.2 (j + 1) v q a b
theorem Ams.app {H : Hp} {xs ys : List V} {qs rs : List Rat} (h : Ams K H xs qs) (r : Ams K H ys rs) : Ams K H (xs ++ ys) (qs ++ rs) := by
  refine ⟨by rw [List.length_append, List.length_append, h.1, r.1], fun j v q a b => ?_⟩
  by_cases hj : j < xs.length
  · rw [List.getElem?_append_left hj] at a
    rw [List.getElem?_append_left (by rw [← h.1]; exact hj)] at b
    exact h.2 j v q a b
  · rw [List.getElem?_append_right (by omega)] at a
    rw [List.getElem?_append_right (by rw [← h.1]; omega), ← h.1] at b
    exact r.2 _ v q a b
theorem Ams.take {H : Hp} {xs : List V} {qs : List Rat} (h : Ams K H xs qs) (n : Nat) : Ams K H (xs.take n) (qs.take n) := by
  refine ⟨by rw [List.length_take, List.length_take, h.1], fun j v q a b => ?_⟩
  rw [List.getElem?_take] at a b
  split at a
  · rename_i hj
    rw [if_pos hj] at b
    exact h.2 j v q a b
  · cases a
theorem Ams.drop {H : Hp} {xs : List V} {qs : List Rat} (h : Ams K H xs qs) (n : Nat) : Ams K H (xs.drop n) (qs.drop n) := by
  refine ⟨by rw [List.length_drop, List.length_drop, h.1], fun j v q a b => ?_⟩
  rw [List.getElem?_drop] at a b
  exact h.2 _ v q a b
theorem permR : ∀ {xs : List Rat} {i : Nat} (h : i < xs.length), (xs[i] :: xs.eraseIdx i).Perm xs
  | a :: r, 0, _ => List.Perm.refl _
  | a :: r, i + 1, h => ((List.Perm.swap a _ _)).trans ((permR (xs := r) (i := i) (by simpa using h)).cons a)
theorem permI (xs : List Rat) (z : Rat) (k : Nat) : (xs.take k ++ [z] ++ xs.drop k).Perm (z :: xs) := by
  have h : (xs.take k ++ z :: xs.drop k).Perm (z :: (xs.take k ++ xs.drop k)) := List.perm_middle
  rw [List.take_append_drop] at h
  rw [List.append_assoc]
  exact h
/-- a pair put together: its value, its size -/
structure Join (g : Rat → Rat → Rat) (z : Rat) : Prop where
  swap : ∀ a b c, g a (g b c) = g b (g a c)
  assoc : ∀ a b c, g (g a b) c = g a (g b c)
  one : ∀ a, g a z = a
  sz : ∀ {m n : Nat} {a b : Rat}, Sz m a → Sz n b → Sz (m + n + 1) (g a b)
theorem join_add : Join (· + ·) 0 := ⟨fun a b c => by show a + (b + c) = b + (a + c); rw [← Rat.add_assoc, Rat.add_comm a b, Rat.add_assoc], fun a b c => Rat.add_assoc a b c, fun a => Rat.add_zero a, sz_add⟩
theorem join_mul : Join (· * ·) 1 := ⟨fun a b c => by show a * (b * c) = b * (a * c); rw [← Rat.mul_assoc, Rat.mul_comm a b, Rat.mul_assoc], fun a b c => Rat.mul_assoc a b c, fun a => Rat.mul_one a, fun h1 h2 => (sz_mul h1 h2).mono (by omega)⟩
theorem Join.two {g : Rat → Rat → Rat} {z : Rat} (J : Join g z) (a b : Rat) (l : List Rat) : opR g z (a :: b :: l) = opR g z (g a b :: l) := (J.assoc a b _).symm
theorem Join.sz2 {g : Rat → Rat → Rat} {z : Rat} (J : Join g z) {a b : Rat} {l : List Rat} {B : Nat} (h : Szs B (a :: b :: l)) : Szs B (g a b :: l) := by
  cases h with
  | cons h1 r =>
    cases r with
    | cons h2 r =>
      rename_i m1 m2 B2
      have := Szs.cons (J.sz h1 h2) r
      rw [show B2 + (m2 + 1) + (m1 + 1) = B2 + (m1 + m2 + 1 + 1) by omega]
      exact this
theorem Szs.hd {B : Nat} {a : Rat} {l : List Rat} (h : Szs B (a :: l)) : Sz B a := by
  cases h with
  | cons h1 r => exact h1.mono (by omega)
theorem Szs.tl {B : Nat} {a : Rat} {l : List Rat} (h : Szs B (a :: l)) : ∃ B', B' ≤ B ∧ Szs B' l := by
  cases h with
  | cons h1 r => exact ⟨_, by omega, r⟩
def gop (c : Bool) : Rat → Rat → Rat := if c then (· + ·) else (· * ·)
def gun (c : Bool) : Rat := if c then 0 else 1
theorem join_of (c : Bool) : Join (gop c) (gun c) := by
  cases c
  · exact join_mul
  · exact join_add
def spGrouped (K : PySem.W.Frag) : Sp := fun vs H Q _ => ∃ (b : Bag) (r : Addr) (c : Bool) (xs : List V) (qs : List Rat), vs = [.ref b.a, .ref r, .bl c] ∧ BagAt K H b ∧ SqL K H r xs ∧ b.a ≠ r ∧ Ams K H xs qs ∧ 1 ≤ qs.length ∧ qs.length ≤ 6 ∧ (∀ q ∈ qs, Sz 114 q) ∧
  ∀ v H', Am K H' v (opR (gop c) (gun c) qs) → BagAt K H' b → Ext [b.a] H H' → Q v H'
end
end Yk

set_option maxHeartbeats 4000000
namespace Yk
open PySem PySem.Spec PyProof.Rows L2

/-- the same data, so deep -/
inductive Eqd (K : PySem.W.Frag) (H : Hp) : Nat → V → V → Prop where
  | non (n : Nat) : Eqd K H n .non .non
  | bl (n : Nat) (b : Bool) : Eqd K H n (.bl b) (.bl b)
  | int (n : Nat) (i : Int) : Eqd K H n (.int i) (.int i)
  | str (n : Nat) (z : Str) : Eqd K H n (.str z) (.str z)
  | tup {n : Nat} {a b : Addr} {xs ys : List V} (ha : SqT K H a xs) (hb : SqT K H b ys) (hl : xs.length = ys.length) (h4 : xs.length ≤ 4000) (h : ∀ (i : Nat) (x y : V), xs[i]? = some x → ys[i]? = some y → Eqd K H n x y) : Eqd K H (n + 1) (.ref a) (.ref b)
  | lst {n : Nat} {a b : Addr} {xs ys : List V} (ha : SqL K H a xs) (hb : SqL K H b ys) (hl : xs.length = ys.length) (h4 : xs.length ≤ 4000) (h : ∀ (i : Nat) (x y : V), xs[i]? = some x → ys[i]? = some y → Eqd K H n x y) : Eqd K H (n + 1) (.ref a) (.ref b)
theorem Eqd.x0 {K : PySem.W.Frag} {H H1 : Hp} (e : Ext [] H H1) {n : Nat} {v w : V} (h : Eqd K H n v w) : Eqd K H1 n v w := by
  induction h with
  | non n => exact .non n
  | bl n b => exact .bl n b
  | int n i => exact .int n i
  | str n z => exact .str n z
  | tup ha hb hl h4 _ ih => exact .tup (tup0 e ha) (tup0 e hb) hl h4 ih
  | lst ha hb hl h4 _ ih => exact .lst (lst0 e ha) (lst0 e hb) hl h4 ih
theorem Am.eqd {K : PySem.W.Frag} {H : Hp} {v w : V} {q : Rat} (n : Nat) (h1 : Am K H v q) (h2 : Am K H w q) : Eqd K H (n + 1) v w := by
  obtain ⟨a, rfl, h1⟩ := h1
  obtain ⟨b, rfl, h2⟩ := h2
  refine .tup h1 h2 rfl (by simp) fun i x y hx hy => ?_
  rw [hx] at hy
  cases hy
  match i, hx with
  | 0, hx => cases hx; exact .int _ _
  | 1, hx => cases hx; exact .int _ _
  | i + 2, hx => cases hx
def spLike (K : PySem.W.Frag) : Nat → Sp
  | 0 => fun _ _ _ _ => False
  | n + 1 => fun vs H Q _ => ∃ v1 v2, vs = [v1, v2] ∧ Eqd K H n v1 v2 ∧ ∀ H', Ext [] H H' → Q (.bl true) H'
section
variable {P : Program} {w : World} {K : PySem.W.Frag} {mg : Str → Option Value} {base : Heap} {f : Addr} {fd : FuncData}
end
end Yk

set_option maxHeartbeats 4000000
namespace Yk
open PySem PySem.Spec PyProof.Rows L2 TL

section
variable {P : Program} {w : World} {K : PySem.W.Frag} {mg : Str → Option Value} {base : Heap} {f : Addr} {fd : FuncData}
def spNumText (K : PySem.W.Frag) : Sp := fun vs H Q _ => ∃ n : Nat, vs = [.int (n : Int)] ∧ n < 2 ^ 1900 ∧ ∀ H', Ext [] H H' → Q (.str (nt n)) H'
def spIsNum (K : PySem.W.Frag) : Sp := fun vs H Q _ => ∃ n : Int, vs = [.int n] ∧ Q (.bl true) H
abbrev s_is_number : Stmt := top 3
theorem c_is_number : FnScope ["value"] ["value"] (defScope s_is_number) := ⟨rfl, rfl, rfl, by decide +kernel, rfl, by decide +kernel, by decide +kernel⟩
theorem f_is_number (F : FunD K "is_number" "is_number" (defArgs s_is_number) (defBody s_is_number) (defScope s_is_number) [] [] f fd) (hm : mg "is_number" = some (.ref f)) (T : Bt mg) : Fn P w K mg base 1 "is_number" (spIsNum K) := by
  refine fn_def F hm c_is_number (fun vs H Q E h => ?_) (fun _ _ _ _ _ _ us hl => match us, hl with | [_], _ => rfl) (fun cdv A outer s H vs Q E hr h => ?_)
  · obtain ⟨n, rfl, _⟩ := h
    rfl
  · obtain ⟨n, rfl, k⟩ := h
    have nd := c_is_number.nd
    refine ⟨_, (pss_one (ps_ret (pe_and (pe_callB call_isi (by rfl) T.isinstance (by decide +kernel) (pa_cons (pv 0) (pa_cons (pe_bltn (v := .ty "int") (by rfl) T.int (by decide +kernel) rfl) pa_nil))) (pe_one (pe_not (pe_callB call_isi (by rfl) T.isinstance (by decide +kernel) (pa_cons (pv 0) (pa_cons (pe_bltn (v := .ty "bool") (by rfl) T.bool (by decide +kernel) rfl) pa_nil)))))))), ?_⟩
    show (_ : TS) _ [some _] _
    try dsimp only [cxOf, Cx.nox]
    walk_at "run"
    exact k
def spIsAm (K : PySem.W.Frag) : Sp := fun vs H Q _ => ∃ (v : V) (q : Rat), vs = [v] ∧ Am K H v q ∧ 0 ≤ q ∧ Q (.bl true) H
abbrev s_is_amount : Stmt := top 14
theorem c_is_amount : FnScope ["value", "top", "bottom"] ["value"] (defScope s_is_amount) := ⟨rfl, rfl, rfl, by decide +kernel, rfl, by decide +kernel, by decide +kernel⟩
theorem f_is_amount (F : FunD K "is_amount" "is_amount" (defArgs s_is_amount) (defBody s_is_amount) (defScope s_is_amount) [] [] f fd) (hm : mg "is_amount" = some (.ref f)) (T : Bg mg) (Fis_number : Fn P w K mg base 1 "is_number" (spIsNum K)) : Fn P w K mg base 2 "is_amount" (spIsAm K) := by
  refine fn_def F hm c_is_amount (fun vs H Q E h => ?_) (fun _ _ _ _ _ _ us hl => match us, hl with | [_], _ => rfl) (fun cdv A outer s H vs Q E hr h => ?_)
  · obtain ⟨v, q, rfl, _⟩ := h
    rfl
  · obtain ⟨v, q, rfl, ⟨a, rfl, ha⟩, hq, k⟩ := h
    have nd := c_is_amount.nd
    refine ⟨_, (pss_cons (ps_if (PW.pt (pw_or (pt_not (pt_val (pe_callB call_isi (by rfl) T.isinstance (by decide +kernel) (pa_cons (pv 0) (pa_cons (pe_bltn (v := .ty "tuple") (by rfl) T.tuple (by decide +kernel) rfl) pa_nil))))) (pw_or1 (pt_cmpR op_ne (pe_callB cr_len (by rfl) T.len (by decide +kernel) (pa_cons (pv 0) pa_nil)) pe_int (nomark _)))))
        (pss_one (ps_ret pe_bl))
        pss_nil)
      (pss_cons (ps_asg (pv 0) (pg_tup rfl (pgs_cons (pg_name (i := 1) nd rfl (by first | exact Or.inl rfl | exact Or.inr rfl)) (pgs_cons (pg_name (i := 2) nd rfl (by first | exact Or.inl rfl | exact Or.inr rfl)) pgs_nil))))
      (pss_cons (ps_if (PW.pt (pw_or (pt_not (pt_val (pe_fn Fis_number (hr.mono (by decide)) (pa_cons (pv 1) pa_nil)))) (pw_or1 (pt_not (pt_val (pe_fn Fis_number (hr.mono (by decide)) (pa_cons (pv 2) pa_nil)))))))
        (pss_one (ps_ret pe_bl))
        pss_nil)
      (pss_one (ps_ret (pe_and (pe_cmpR op_ge (pv 1) pe_int (nomark _)) (pe_and (pe_cmpR op_ge (pv 2) pe_int (nomark _)) (pe_one (pe_cmpR op_eq (pe_callBfun cr_gcd (by rfl) T.gcd (pa_cons (pv 1) (pa_cons (pv 2) pa_nil))) pe_int (nomark _)))))))))), ?_⟩
    show (_ : TS) _ [some _, none, none] _
    try dsimp only [cxOf, Cx.nox]
    have hn := num_nn hq
    have hd := q.den_pos
    walk_at "run"
    refine ⟨_, rfl, ?_⟩
    walk_at "run"
    refine ⟨_, rfl, ?_⟩
    walk_at "run"
    refine r_true (decide_eq_true hn) ?_
    walk_at "run"
    refine r_true (decide_eq_true (by omega)) ?_
    walk_at "run"
    have hc : Nat.gcd q.num.natAbs (q.den : Int).natAbs = 1 := q.reduced
    rw [hc]
    show Q (.bl (decide (V.int 1 = V.int 1))) H
    rw [decide_eq_true rfl]
    exact k
end
end Yk

set_option maxHeartbeats 4000000
namespace Yk
open PySem PySem.Spec PyProof.Rows L2 TL

section
variable {σ : L2.St} {H : Hp} {Q : VK} {te : TE}
theorem r_js {t : TE} {ts : List TE} {acc : Str} {R : Str → Hp → Prop} (h : t σ H fun x H1 => ∃ y : Str, x = .str y ∧ (acc ++ y).length ≤ sizeLine ∧ tJs ts (acc ++ y) σ H1 R) : tJs (t :: ts) acc σ H R := h
theorem r_M1 {r : V → List V → Hp → VK → Prop} {to : TE} (h : to σ H fun x H1 => (∃ a, x = .str a) ∧ te σ H1 fun y H2 => r x [y] H2 Q) : tM1 r to te σ H Q := h
theorem r_jsN {acc : Str} {R : Str → Hp → Prop} (h : R acc H) : tJs [] acc σ H R := h
theorem r_fmt (h : te σ H fun x H1 => (∃ y : Str, x = .str y ∧ y.length ≤ sizeLine ∧ Q (.str y) H1) ∨ ∃ i : Int, x = .int i ∧ i.natAbs.log2 < 1920 ∧ Q (.str (toString i)) H1) : tFmt te σ H Q := h
theorem e_app (x : Str) : Str.empty ++ x = x := str_eq (by
  show (#[] ++ x.cps).toList = x.cps.toList
  simp)
theorem len_app (x y : Str) : (x ++ y).length = x.length + y.length := by
  show (x.cps ++ y.cps).size = _
  rw [Array.size_append]
  rfl
theorem ntl {n : Nat} (h : n < 2 ^ 1900) : (nt n).length ≤ 1900 := by rw [len_nt]; exact numL_le (by decide) (bits_lt h)
theorem ntl4 {n : Nat} (h : n < 2 ^ 1200) : (nt n).length ≤ 400 := by rw [len_nt]; exact numL_le (by decide) (Nat.lt_of_lt_of_le h (by decide +kernel))
end
section
variable {P : Program} {w : World} {K : PySem.W.Frag} {mg : Str → Option Value} {base : Heap} {f : Addr} {fd : FuncData}
def spReadNum (K : PySem.W.Frag) : Sp := fun vs H Q _ => ∃ (n : Nat) (m : Int), vs = [.str (nt n), .int m] ∧ (nt n).length ≤ 640 ∧ ((nt n).length : Int) ≤ m ∧ Q (.int (n : Int)) H
def spAmTxt (K : PySem.W.Frag) : Sp := fun vs H Q _ => ∃ v q, vs = [v] ∧ Am K H v q ∧ 0 ≤ q ∧ Sz 1900 q ∧ ∀ H', Ext [] H H' → Q (.str (amTxt q)) H'
def spReadAm (K : PySem.W.Frag) : Sp := fun vs H Q _ => ∃ q, vs = [.str (amTxt q)] ∧ 0 ≤ q ∧ Sz 1200 q ∧ RetAm K H Q q
end
end Yk

set_option maxHeartbeats 8000000
namespace Yk
open PySem PySem.Spec PyProof.Rows L2 TL

section
variable {P : Program} {w : World} {K : PySem.W.Frag} {mg : Str → Option Value} {base : Heap} {f : Addr} {fd : FuncData}
section
variable {H : Hp} {Q : VK} {E : XK} {v1 v2 v3 : V} {p q r : Rat} {m n : Nat}
theorem sumQ2 (p q : Rat) : sumQ [p, q] = p + q := by
  show 0 + p + q = p + q
  rw [Rat.zero_add]
theorem sumQ3 (p q r : Rat) : sumQ [p, q, r] = p + q + r := by
  show 0 + p + q + r = p + q + r
  rw [Rat.zero_add]
theorem k_plus2 (a1 : Am K H v1 p) (a2 : Am K H v2 q) (z1 : Sz 1900 p) (z2 : Sz 1900 q) (k : ∀ v H', Ext [] H H' → Am K H' v (p + q) → Q v H') : spPlus K [v1, v2] H Q E :=
  ⟨[p, q], 1900, Ams.cons a1 (Ams.cons a2 Ams.nil), fun x hx => by
    rcases List.mem_cons.mp hx with rfl | hx
    · exact z1
    · rw [List.mem_singleton.mp hx]; exact z2, by decide, by simp, fun v H' e a => k v H' e (by rw [sumQ2] at a; exact a)⟩
theorem k_plus3 (a1 : Am K H v1 p) (a2 : Am K H v2 q) (a3 : Am K H v3 r) (z1 : Sz 1300 p) (z2 : Sz 1300 q) (z3 : Sz 1300 r) (k : ∀ v H', Ext [] H H' → Am K H' v (p + q + r) → Q v H') : spPlus K [v1, v2, v3] H Q E :=
  ⟨[p, q, r], 1300, Ams.cons a1 (Ams.cons a2 (Ams.cons a3 Ams.nil)), fun x hx => by
    rcases List.mem_cons.mp hx with rfl | hx
    · exact z1
    · rcases List.mem_cons.mp hx with rfl | hx
      · exact z2
      · rw [List.mem_singleton.mp hx]; exact z3, by decide, by simp, fun v H' e a => k v H' e (by rw [sumQ3] at a; exact a)⟩
theorem k_times (a1 : Am K H v1 p) (a2 : Am K H v2 q) (z1 : Sz 4000 p) (z2 : Sz 4000 q) (k : ∀ v H', Ext [] H H' → Am K H' v (p * q) → Q v H') : spTimes K [v1, v2] H Q E := ⟨_, _, p, q, rfl, a1, a2, z1, z2, k⟩
theorem k_over (a1 : Am K H v1 p) (a2 : Am K H v2 q) (h : 0 < q) (z1 : Sz 4000 p) (z2 : Sz 4000 q) (k : ∀ v H', Ext [] H H' → Am K H' v (p / q) → Q v H') : spOver K [v1, v2] H Q E := ⟨_, _, p, q, rfl, a1, a2, h, z1, z2, k⟩
theorem k_minus (a1 : Am K H v1 p) (a2 : Am K H v2 q) (h : q ≤ p) (z1 : Sz 4000 p) (z2 : Sz 4000 q) (k : ∀ v H', Ext [] H H' → Am K H' v (p - q) → Q v H') : spMinus K [v1, v2] H Q E := ⟨_, _, p, q, rfl, a1, a2, h, z1, z2, k⟩
theorem k_cmp (a1 : Am K H v1 p) (a2 : Am K H v2 q) (z1 : Sz 4000 p) (z2 : Sz 4000 q) (k : Q (.int (cmpQ p q)) H) : spCompare K [v1, v2] H Q E := ⟨_, _, p, q, rfl, a1, a2, z1, z2, k⟩
theorem k_order (a1 : Am K H v1 p) (a2 : Am K H v2 q) (z1 : Sz 4000 p) (z2 : Sz 4000 q) (k : Q (.int (cmpQ p q)) H) : spOrder K [v1, v2] H Q E := ⟨_, _, p, q, rfl, a1, a2, z1, z2, k⟩
theorem k_two {ok : Rat → Rat → Prop} {F : Rat → Rat → Rat} (a1 : Am K H v1 p) (a2 : Am K H v2 q) (z1 : Sz 4000 p) (z2 : Sz 4000 q) (h1 : 0 ≤ p) (h2 : 0 ≤ q) (h3 : ok p q) (k : ∀ v H', Ext [] H H' → Am K H' v (F p q) → Q v H') : sp2 ok F K [v1, v2] H Q E := ⟨_, _, p, q, rfl, a1, a2, z1, z2, h1, h2, h3, k⟩
theorem ams_eqd {a b : Addr} {xs ys : List V} {qs : List Rat} (h1 : SqL K H a xs) (h2 : SqL K H b ys) (h3 : Ams K H xs qs) (h4 : Ams K H ys qs) (h5 : qs.length ≤ 4000) (n : Nat) : Eqd K H (n + 2) (.ref a) (.ref b) :=
  .lst h1 h2 (h3.1.trans h4.1.symm) (by rw [h3.1]; exact h5) fun i x y hx hy => by
    obtain ⟨q, hq, e1⟩ := h3.at_ hx
    exact e1.eqd n (h4.2 i y q hy hq)
theorem k_like {v w : V} {n : Nat} (h : Eqd K H n v w) (k : ∀ H', Ext [] H H' → Q (.bl true) H') : spLike K (n + 1) [v, w] H Q E := ⟨v, w, rfl, h, k⟩
theorem ints_eqd {a b : Addr} {ns : List Int} (h1 : SqL K H a (ns.map V.int)) (h2 : SqL K H b (ns.map V.int)) (h : ns.length ≤ 4000) (n : Nat) : Eqd K H (n + 1) (.ref a) (.ref b) :=
  .lst h1 h2 rfl (by rw [List.length_map]; exact h) fun i x y hx hy => by
    rw [hx] at hy
    cases hy
    rw [List.getElem?_map] at hx
    cases e : ns[i]? with
    | none => rw [e] at hx; cases hx
    | some z => rw [e] at hx; cases hx; exact .int _ _
theorem cmpQ_eq (p q : Rat) : cmpQ p q = cmpQ' p q := rfl
end
def spThree (K : PySem.W.Frag) : Sp := fun vs H Q _ => ∃ v1 v2 v3 p q r, vs = [v1, v2, v3] ∧ Am K H v1 p ∧ Am K H v2 q ∧ Am K H v3 r ∧ 0 ≤ p ∧ 0 ≤ q ∧ 0 ≤ r ∧ Sz 114 p ∧ Sz 114 q ∧ Sz 114 r ∧ ∀ H', Ext [] H H' → Q (.bl true) H'
end
end Yk

set_option maxHeartbeats 8000000
namespace Yk
open PySem PySem.Spec PyProof.Rows L2 TL

section
variable {P : Program} {w : World} {K : PySem.W.Frag} {mg : Str → Option Value} {base : Heap} {f : Addr} {fd : FuncData}
/-! the row of a turn -/
theorem Am.b2 {H H1 : Hp} {b : Bag} {v : V} {q : Rat} (e : Ext [b.a] H H1) (hb : BagAt K H b) (h : Am K H v q) : Am K H1 v q := h.b hb e
def Good (qs : List Rat) : Prop := 3 ≤ qs.length ∧ qs.length ≤ 6 ∧ ∀ q ∈ qs, 0 ≤ q ∧ Sz 114 q
structure RowAt (K : PySem.W.Frag) (H0 H : Hp) (b : Bag) (row : Addr) (xs : List V) (qs : List Rat) : Prop where
  at_ : H row = some (.lst xs)
  ams : Ams K H xs qs
  good : Good qs
  bag : BagAt K H b
  new : H0 row = none
  bag0 : BagAt K H0 b
  ext : Ext [b.a] H0 H
theorem RowAt.ne {H0 H : Hp} {b : Bag} {row : Addr} {xs : List V} {qs : List Rat} (R : RowAt K H0 H b row xs qs) : row ≠ b.a := fun z => R.bag0.ne R.new z.symm
theorem RowAt.x0 {H0 H H1 : Hp} {b : Bag} {row : Addr} {xs : List V} {qs : List Rat} (e : Ext [] H H1) (R : RowAt K H0 H b row xs qs) : RowAt K H0 H1 b row xs qs :=
  ⟨e _ _ R.at_ (fun z => nomatch z), R.ams.x0 e, R.good, R.bag.x0 e, R.new, R.bag0, R.ext.trans e.of0⟩
theorem RowAt.b {H0 H H1 : Hp} {b : Bag} {row : Addr} {xs : List V} {qs : List Rat} (e : Ext [b.a] H H1) (hb : BagAt K H1 b) (R : RowAt K H0 H b row xs qs) : RowAt K H0 H1 b row xs qs :=
  ⟨e _ _ R.at_ (by simpa using R.ne), R.ams.b R.bag e, R.good, hb, R.new, R.bag0, R.ext.trans e⟩
theorem RowAt.sq {H0 H : Hp} {b : Bag} {row : Addr} {xs : List V} {qs : List Rat} (R : RowAt K H0 H b row xs qs) : SqL K H row xs := .inl (.inl R.at_)
theorem Ams.set {H : Hp} {xs : List V} {qs : List Rat} (h : Ams K H xs qs) {j : Nat} {v : V} {q : Rat} (hv : Am K H v q) : Ams K H (xs.set j v) (qs.set j q) := by
  refine ⟨by rw [List.length_set, List.length_set, h.1], fun i x y a b => ?_⟩
  by_cases hj : j = i
  · subst hj
    rw [List.getElem?_set_self'] at a b
    cases ex : xs[j]? with
    | none => rw [ex] at a; cases a
    | some x0 =>
      cases eq : qs[j]? with
      | none => rw [eq] at b; cases b
      | some q0 =>
        rw [ex] at a
        rw [eq] at b
        cases a
        cases b
        exact hv
  · rw [List.getElem?_set_ne hj] at a b
    exact h.2 i x y a b
theorem lmax_eq (m q : Rat) : lmax m q = if m < q then q else m := by
  unfold lmax
  by_cases h1 : q < m
  · rw [if_pos h1, if_neg (by grind)]
  · rw [if_neg h1]
    by_cases h2 : m < q
    · rw [if_pos h2]
    · rw [if_neg h2]; grind
theorem minQ_spec : ∀ (qs : List Rat) (p : Rat), minQ p qs ∈ p :: qs ∧ ∀ x ∈ p :: qs, minQ p qs ≤ x
  | [], p => ⟨List.mem_cons_self, fun x hx => by rw [List.mem_singleton.mp hx]; exact Rat.le_refl⟩
  | q :: r, p => by
    obtain ⟨h1, h2⟩ := minQ_spec r (if q < p then q else p)
    have e : minQ p (q :: r) = minQ (if q < p then q else p) r := rfl
    rw [e]
    have h3 := h2 _ List.mem_cons_self
    refine ⟨?_, fun x hx => ?_⟩
    · rcases List.mem_cons.mp h1 with h | h
      · rw [h]; split <;> simp
      · exact List.mem_cons_of_mem _ (List.mem_cons_of_mem _ h)
    · rcases List.mem_cons.mp hx with rfl | hx
      · refine Rat.le_trans h3 ?_
        split
        · grind
        · exact Rat.le_refl
      · rcases List.mem_cons.mp hx with rfl | hx
        · refine Rat.le_trans h3 ?_
          split
          · exact Rat.le_refl
          · grind
        · exact h2 x (List.mem_cons_of_mem _ hx)
theorem maxQ_spec : ∀ (qs : List Rat) (p : Rat), maxQ p qs ∈ p :: qs ∧ ∀ x ∈ p :: qs, x ≤ maxQ p qs
  | [], p => ⟨List.mem_cons_self, fun x hx => by rw [List.mem_singleton.mp hx]; exact Rat.le_refl⟩
  | q :: r, p => by
    obtain ⟨h1, h2⟩ := maxQ_spec r (if p < q then q else p)
    have e : maxQ p (q :: r) = maxQ (if p < q then q else p) r := rfl
    rw [e]
    have h3 := h2 _ List.mem_cons_self
    refine ⟨?_, fun x hx => ?_⟩
    · rcases List.mem_cons.mp h1 with h | h
      · rw [h]; split <;> simp
      · exact List.mem_cons_of_mem _ (List.mem_cons_of_mem _ h)
    · rcases List.mem_cons.mp hx with rfl | hx
      · refine Rat.le_trans ?_ h3
        split
        · grind
        · exact Rat.le_refl
      · rcases List.mem_cons.mp hx with rfl | hx
        · refine Rat.le_trans ?_ h3
          split
          · exact Rat.le_refl
          · grind
        · exact h2 x (List.mem_cons_of_mem _ hx)
theorem minQ_perm {p q : Rat} {l m : List Rat} (h : (p :: l).Perm (q :: m)) : minQ p l = minQ q m := by
  obtain ⟨a1, a2⟩ := minQ_spec l p
  obtain ⟨b1, b2⟩ := minQ_spec m q
  exact Rat.le_antisymm (a2 _ (h.symm.subset b1)) (b2 _ (h.subset a1))
theorem maxQ_perm {p q : Rat} {l m : List Rat} (h : (p :: l).Perm (q :: m)) : maxQ p l = maxQ q m := by
  obtain ⟨a1, a2⟩ := maxQ_spec l p
  obtain ⟨b1, b2⟩ := maxQ_spec m q
  exact Rat.le_antisymm (b2 _ (h.subset a1)) (a2 _ (h.symm.subset b1))
theorem foldl_lmin (q : Rat) (l : List Rat) : (q :: l).foldl lmin q = minQ q l := by
  show l.foldl lmin (lmin q q) = minQ q l
  have e : lmin q q = q := by unfold lmin; split <;> rfl
  rw [e]
  rfl
theorem foldl_lmax (q : Rat) (l : List Rat) : (q :: l).foldl lmax q = maxQ q l := by
  show l.foldl lmax (lmax q q) = maxQ q l
  have e : lmax q q = q := by unfold lmax; split <;> rfl
  rw [e]
  have h : ∀ (l : List Rat) (z : Rat), l.foldl lmax z = l.foldl (fun m q => if m < q then q else m) z := by
    intro l
    induction l with
    | nil => intro z; rfl
    | cons a r ih =>
      intro z
      show r.foldl lmax (lmax z a) = r.foldl _ (if z < a then a else z)
      rw [lmax_eq, ih]
  exact h l q
/-- from the same things in another order, the same row -/
theorem ams_perm {H : Hp} {xs ys : List V} (p : ys.Perm xs) : ∀ {qs : List Rat}, Ams K H xs qs → ∃ rs, Ams K H ys rs ∧ rs.Perm qs := by
  induction p with
  | nil => exact fun {qs} h => ⟨qs, h, List.Perm.refl _⟩
  | cons x _ ih =>
    intro qs h
    cases qs with
    | nil => exact absurd h.1 (by simp)
    | cons q r =>
      have h1 : Ams K H _ r := ⟨by simpa using h.1, fun i v u a b => h.2 (i + 1) v u (by simpa using a) (by simpa using b)⟩
      obtain ⟨rs, a, b⟩ := ih h1
      exact ⟨q :: rs, Ams.cons (h.2 0 x q rfl rfl) a, b.cons q⟩
  | swap x y l =>
    intro qs h
    match qs, h with
    | [], h => exact absurd h.1 (by simp)
    | [_], h => exact absurd h.1 (by simp)
    | q1 :: q2 :: r, h =>
      have h1 : Ams K H l r := ⟨by simpa using h.1, fun i v u a b => h.2 (i + 2) v u (by simpa using a) (by simpa using b)⟩
      exact ⟨q2 :: q1 :: r, Ams.cons (h.2 1 _ q2 rfl rfl) (Ams.cons (h.2 0 _ q1 rfl rfl) h1), List.Perm.swap q1 q2 r⟩
  | trans _ _ ih1 ih2 =>
    intro qs h
    obtain ⟨rs, a, b⟩ := ih2 h
    obtain ⟨ts, c, d⟩ := ih1 a
    exact ⟨ts, c, d.trans b⟩
theorem Good.perm {qs rs : List Rat} (g : Good qs) (p : rs.Perm qs) : Good rs := ⟨by rw [p.length_eq]; exact g.1, by rw [p.length_eq]; exact g.2.1, fun q hq => g.2.2 q (p.subset hq)⟩
theorem k_amt {H : Hp} {b : Bag} {Q : VK} {E : XK} (hb : BagAt K H b) (k : ∀ v q H', Am K H' v q → 0 ≤ q → Sz 114 q → BagAt K H' b → Ext [b.a] H H' → Q v H') : spAmt K [.ref b.a] H Q E := ⟨b, rfl, hb, k⟩
theorem k_draw {H : Hp} {b : Bag} {n : Int} {Q : VK} {E : XK} (hb : BagAt K H b) (h0 : 0 < n) (h1 : n < 2 ^ 400) (k : ∀ (x : Int) H', 0 ≤ x → x < n → BagAt K H' b → Ext [b.a] H H' → Q (.int x) H') : spDraw K [.ref b.a, .int n] H Q E := ⟨b, n, rfl, h0, h1, hb, k⟩
end
end Yk

set_option maxHeartbeats 4000000
namespace Yk
structure Row where
  man : Option (Rat × Rat)
  w : Nat
  b : Rat
def shq (man : Option (Rat × Rat)) (w : Nat) (x : Rat) : Rat := match man with
  | none => 0
  | some (l, m) => lmax l (lmin m ((w : Rat) * x))
def Row.at_ (r : Row) (x : Rat) : Rat := shq r.man r.w (lmin x r.b)
def tot (rows : List Row) (x : Rat) : Rat := sumQ (rows.map fun r => r.at_ x)
theorem sumQ_cons (q : Rat) (l : List Rat) : sumQ (q :: l) = q + sumQ l := by
  have h : ∀ (l : List Rat) (z : Rat), l.foldl (· + ·) z = z + sumQ l := by
    intro l
    induction l with
    | nil => intro z; show z = z + 0; rw [Rat.add_zero]
    | cons a r ih =>
      intro z
      show r.foldl (· + ·) (z + a) = z + sumQ (a :: r)
      have e : sumQ (a :: r) = a + sumQ r := by
        show r.foldl (· + ·) (0 + a) = _
        rw [ih, Rat.zero_add]
      rw [ih, e, Rat.add_assoc]
  show l.foldl (· + ·) (0 + q) = _
  rw [h, Rat.zero_add]
theorem lmin_le1 (p q : Rat) : lmin p q ≤ p := by unfold lmin; split <;> grind
theorem lmin_le2 (p q : Rat) : lmin p q ≤ q := by unfold lmin; split <;> grind
theorem lmin_mono {p q r : Rat} (h : p ≤ q) : lmin p r ≤ lmin q r := by unfold lmin; split <;> split <;> grind
theorem wmono {w : Nat} {x y : Rat} (h : x ≤ y) : (w : Rat) * x ≤ (w : Rat) * y := Rat.mul_le_mul_of_nonneg_left h (by exact_mod_cast Nat.zero_le w)
theorem shq_mono {man : Option (Rat × Rat)} {w : Nat} {x y : Rat} (h : x ≤ y) : shq man w x ≤ shq man w y := by
  cases man with
  | none => exact Rat.le_refl
  | some p =>
    obtain ⟨l, m⟩ := p
    have h2 := wmono (w := w) h
    show lmax l (lmin m _) ≤ lmax l (lmin m _)
    generalize (w : Rat) * x = a at h2
    generalize (w : Rat) * y = b at h2
    unfold lmax lmin
    grind
theorem Row.mono (r : Row) {x y : Rat} (h : x ≤ y) : r.at_ x ≤ r.at_ y := shq_mono (lmin_mono h)
theorem tot_cons (r : Row) (rows : List Row) (x : Rat) : tot (r :: rows) x = r.at_ x + tot rows x := sumQ_cons _ _
theorem tot_mono (rows : List Row) {x y : Rat} (h : x ≤ y) : tot rows x ≤ tot rows y := by
  induction rows with
  | nil => exact Rat.le_refl
  | cons r rows ih =>
    rw [tot_cons, tot_cons]
    have := r.mono h
    grind
/-- linear between l and u -/
def Lin (T : Rat → Rat) (l u : Rat) : Prop := ∀ z, l ≤ z → z ≤ u → (T z - T l) * (u - l) = (T u - T l) * (z - l)
theorem Lin.const {T : Rat → Rat} {l u c : Rat} (hu : l ≤ u) (h : ∀ z, l ≤ z → z ≤ u → T z = c) : Lin T l u := fun z h1 h2 => by
  rw [h z h1 h2, h l Rat.le_refl hu, h u hu Rat.le_refl]
  grind
theorem Lin.line {T : Rat → Rat} {l u c : Rat} (hu : l ≤ u) (h : ∀ z, l ≤ z → z ≤ u → T z = c * z) : Lin T l u := fun z h1 h2 => by
  rw [h z h1 h2, h l Rat.le_refl hu, h u hu Rat.le_refl]
  grind
theorem Lin.add {T S : Rat → Rat} {l u : Rat} (h1 : Lin T l u) (h2 : Lin S l u) : Lin (fun z => T z + S z) l u := fun z a b => by
  have := h1 z a b
  have := h2 z a b
  dsimp only
  grind
def Row.brk (r : Row) : List Rat := match r.man with
  | none => [r.b]
  | some (l, m) => [l / (r.w : Rat), m / (r.w : Rat), r.b]
theorem Row.lin (r : Row) (hw : 0 < r.w) {l u : Rat} (hlu : l ≤ u) (h : r.man ≠ none → ∀ p ∈ r.brk, p ≤ l ∨ u ≤ p) : Lin r.at_ l u := by
  obtain ⟨man, w, b⟩ := r
  cases man with
  | none => exact Lin.const hlu (c := 0) fun z _ _ => rfl
  | some p =>
    obtain ⟨s, m⟩ := p
    have h := h (by simp)
    have hs := h (s / (w : Rat)) (by simp [Row.brk])
    have hm := h (m / (w : Rat)) (by simp [Row.brk])
    have hb := h b (by simp [Row.brk])
    have w0 : (0 : Rat) < (w : Rat) := by exact_mod_cast hw
    have es : (w : Rat) * (s / (w : Rat)) = s := by grind
    have em : (w : Rat) * (m / (w : Rat)) = m := by grind
    generalize s / (w : Rat) = s' at *
    generalize m / (w : Rat) = m' at *
    subst es em
    have k : ∀ z : Rat, ({ man := some ((w : Rat) * s', (w : Rat) * m'), w := w, b := b } : Row).at_ z = lmax ((w : Rat) * s') (lmin ((w : Rat) * m') ((w : Rat) * lmin z b)) := fun z => rfl
    have c1 : ∀ x y : Rat, x ≤ y → lmin ((w : Rat) * y) ((w : Rat) * x) = (w : Rat) * x := fun x y hxy => by have := wmono (w := w) hxy; unfold lmin; grind
    have c2 : ∀ x y : Rat, x ≤ y → lmin ((w : Rat) * x) ((w : Rat) * y) = (w : Rat) * x := fun x y hxy => by have := wmono (w := w) hxy; unfold lmin; grind
    have d1 : ∀ x y : Rat, x ≤ y → lmax ((w : Rat) * y) ((w : Rat) * x) = (w : Rat) * y := fun x y hxy => by have := wmono (w := w) hxy; unfold lmax; grind
    have d2 : ∀ x y : Rat, x ≤ y → lmax ((w : Rat) * x) ((w : Rat) * y) = (w : Rat) * y := fun x y hxy => by have := wmono (w := w) hxy; unfold lmax; grind
    rcases hb with hb | hb
    · refine Lin.const hlu (c := lmax ((w : Rat) * s') (lmin ((w : Rat) * m') ((w : Rat) * b))) fun z h1 h2 => ?_
      rw [k, show lmin z b = b by unfold lmin; grind]
    · have kz : ∀ z : Rat, z ≤ u → lmin z b = z := fun z h2 => by unfold lmin; grind
      rcases hm with hm | hm
      · refine Lin.const hlu (c := lmax ((w : Rat) * s') ((w : Rat) * m')) fun z h1 h2 => ?_
        rw [k, kz z h2, c2 _ _ (by grind)]
      · rcases hs with hs | hs
        · refine Lin.line hlu (c := (w : Rat)) fun z h1 h2 => ?_
          rw [k, kz z h2, c1 _ _ (by grind), d2 _ _ (by grind)]
        · refine Lin.const hlu (c := (w : Rat) * s') fun z h1 h2 => ?_
          rw [k, kz z h2, c1 _ _ (by grind), d1 _ _ (by grind)]
theorem lin_tot (rows : List Row) (hw : ∀ r ∈ rows, 0 < r.w) {l u : Rat} (hlu : l ≤ u) (h : ∀ r ∈ rows, r.man ≠ none → ∀ p ∈ r.brk, p ≤ l ∨ u ≤ p) : Lin (tot rows) l u := by
  induction rows with
  | nil => exact Lin.const hlu (c := 0) fun z _ _ => rfl
  | cons r rows ih =>
    have e : tot (r :: rows) = fun x => r.at_ x + tot rows x := funext fun x => tot_cons r rows x
    rw [e]
    exact (r.lin (hw r List.mem_cons_self) hlu (h r List.mem_cons_self)).add (ih (fun r hr => hw r (List.mem_cons_of_mem _ hr)) fun r hr => h r (List.mem_cons_of_mem _ hr))
theorem le_cases {x y : Rat} (h : x ≤ y) : x < y ∨ x = y := by grind
theorem nlt {x y : Rat} (h : x < y → False) : y ≤ x := Rat.not_lt.mp h
/-- the level: the least height at which the goal is reached, else the top -/
structure IsLev (T : Rat → Rat) (top goal y : Rat) : Prop where
  nn : 0 ≤ y
  le : y ≤ top
  lo : ∀ z, 0 ≤ z → z < y → T z < goal
  hi : goal ≤ T y ∨ y = top
theorem IsLev.le_of {T : Rat → Rat} {top goal y z : Rat} (a : IsLev T top goal y) (b : IsLev T top goal z) : z ≤ y := nlt fun h => by
  have := b.lo y a.nn h
  rcases a.hi with e | e
  · grind
  · have := b.le; grind
theorem IsLev.uniq {T : Rat → Rat} {top goal y z : Rat} (a : IsLev T top goal y) (b : IsLev T top goal z) : y = z := Rat.le_antisymm (b.le_of a) (a.le_of b)
/-- on a line -/
def onl (T : Rat → Rat) (goal l u : Rat) : Rat := l + (goal - T l) * (u - l) / (T u - T l)
theorem lev_line {T : Rat → Rat} {top goal l u : Rat} (mono : ∀ x y, x ≤ y → T x ≤ T y) (h0 : 0 ≤ l) (hlu : l ≤ u) (hu : u ≤ top) (hl : Lin T l u) (g1 : T l < goal) (g2 : goal ≤ T u) : IsLev T top goal (onl T goal l u) ∧ l < onl T goal l u ∧ onl T goal l u ≤ u ∧ T (onl T goal l u) = goal := by
  have lu : l < u := by
    rcases le_cases hlu with h | h
    · exact h
    · subst h; grind
  have d0 : 0 < T u - T l := by grind
  have e0 : 0 < u - l := by grind
  obtain ⟨y, hy⟩ : ∃ y, y = onl T goal l u := ⟨_, rfl⟩
  rw [← hy]
  have ey : (y - l) * (T u - T l) = (goal - T l) * (u - l) := by
    rw [hy]
    unfold onl
    grind
  have y1 : l < y := by
    have h1 : 0 < (y - l) * (T u - T l) := by rw [ey]; exact Rat.mul_pos (by grind) e0
    refine Rat.not_le.mp fun h => ?_
    have h2 : 0 ≤ (l - y) * (T u - T l) := Rat.mul_nonneg (by grind) (by grind)
    grind
  have y2 : y ≤ u := by
    refine Rat.not_lt.mp fun h => ?_
    have h1 : 0 < (y - u) * (T u - T l) := Rat.mul_pos (by grind) d0
    have h2 : 0 ≤ (T u - goal) * (u - l) := Rat.mul_nonneg (by grind) (by grind)
    grind
  have ty : T y = goal := by
    have h1 := hl y (by grind) y2
    have h2 : (T y - goal) * (u - l) = 0 := by grind
    rcases Rat.mul_eq_zero.mp h2 with h | h <;> grind
  refine ⟨⟨by grind, by grind, fun z z0 zy => ?_, .inl (by rw [ty]; exact Rat.le_refl)⟩, y1, y2, ty⟩
  rcases (Rat.le_total : z ≤ l ∨ l ≤ z) with h | h
  · have := mono z l h; grind
  · have h1 := hl z h (by grind)
    have h2 := hl y (by grind) y2
    have h3 : (T y - T z) * (u - l) = (T u - T l) * (y - z) := by grind
    have h4 : 0 < (T u - T l) * (y - z) := Rat.mul_pos d0 (by grind)
    refine Rat.not_le.mp fun h5 => ?_
    have h6 : 0 ≤ (T z - T y) * (u - l) := Rat.mul_nonneg (by grind) (by grind)
    grind
theorem lev_zero {T : Rat → Rat} {top goal : Rat} (h : 0 ≤ top) (g : goal ≤ T 0) : IsLev T top goal 0 := ⟨Rat.le_refl, h, fun z a b => by grind, .inl g⟩
theorem lev_top {T : Rat → Rat} {top goal : Rat} (mono : ∀ x y, x ≤ y → T x ≤ T y) (h : 0 ≤ top) (g : T top < goal) : IsLev T top goal top := ⟨h, Rat.le_refl, fun z a b => by have := mono z top (by grind); grind, .inr rfl⟩
/-- not below 0, at most M, a multiple of the D-th part of 1 -/
structure In (D M : Nat) (q : Rat) : Prop where
  nn : 0 ≤ q
  le : q ≤ (M : Rat)
  ex : ∃ n : Int, q * (D : Rat) = (n : Rat)
theorem natQ {a b : Nat} (h : a ≤ b) : (a : Rat) ≤ (b : Rat) := by exact_mod_cast h
theorem natP {a : Nat} (h : 0 < a) : (0 : Rat) < (a : Rat) := by exact_mod_cast h
theorem In.sz {D M j k : Nat} {q : Rat} (h : In D M q) (h0 : 0 < D) (hD : D ≤ 2 ^ j) (hM : M ≤ 2 ^ k) : Sz (j + k + 1) q := by
  obtain ⟨n, e⟩ := h.ex
  have d0 := natP h0
  have eq : q = mkRat n D := by
    rw [Rat.mkRat_eq_div]
    grind
  have n0 : 0 ≤ n := by
    have h1 : (0 : Rat) ≤ q * (D : Rat) := Rat.mul_nonneg h.nn (by grind)
    rw [e] at h1
    exact_mod_cast h1
  have n1 : n ≤ (M * D : Nat) := by
    have h1 : q * (D : Rat) ≤ (M : Rat) * (D : Rat) := Rat.mul_le_mul_of_nonneg_right h.le (by grind)
    rw [e] at h1
    have h2 : ((n : Int) : Rat) ≤ (((M * D : Nat) : Int) : Rat) := by push_cast; exact h1
    exact_mod_cast h2
  have hh : M * D ≤ 2 ^ (j + k) := by rw [Nat.add_comm, Nat.pow_add]; exact Nat.mul_le_mul hM hD
  have h2 : 2 ^ (j + k) < 2 ^ (j + k + 1) := Nat.pow_lt_pow_succ (by decide)
  have h3 : 2 ^ j ≤ 2 ^ (j + k) := Nat.pow_le_pow_right (by decide) (by omega)
  refine sz_mk h0 eq ?_ ?_
  · omega
  · omega
theorem In.up {D D' M : Nat} {q : Rat} (h : In D M q) (hd : D ∣ D') : In D' M q := by
  obtain ⟨n, e⟩ := h.ex
  obtain ⟨c, rfl⟩ := hd
  refine ⟨h.nn, h.le, n * (c : Int), ?_⟩
  push_cast
  grind
theorem In.most {D M M' : Nat} {q : Rat} (h : In D M q) (hm : M ≤ M') : In D M' q := ⟨h.nn, Rat.le_trans h.le (natQ hm), h.ex⟩
theorem In.of_le {D M M' : Nat} {q : Rat} (h : In D M q) (hm : q ≤ (M' : Rat)) : In D M' q := ⟨h.nn, hm, h.ex⟩
theorem In.zero {D M : Nat} : In D M 0 := ⟨Rat.le_refl, natQ (Nat.zero_le M), 0, by norm_cast; grind⟩
theorem In.nat {D M n : Nat} (h : n ≤ M) : In D M (n : Rat) := ⟨natQ (Nat.zero_le n), natQ h, ((n * D : Nat) : Int), by push_cast; rfl⟩
theorem In.frac {D M n d : Nat} (h : 0 < d) (hd : d ∣ D) (hm : n ≤ M * d) : In D M (mkRat (n : Int) d) := by
  obtain ⟨c, rfl⟩ := hd
  have d0 := natP h
  have e : mkRat (n : Int) d = (n : Rat) / (d : Rat) := by rw [Rat.mkRat_eq_div]; norm_cast
  have hm' : (n : Rat) ≤ (M : Rat) * (d : Rat) := by exact_mod_cast hm
  have n0 := natQ (Nat.zero_le n)
  obtain ⟨x, ex⟩ : ∃ x : Rat, x = (n : Rat) / (d : Rat) := ⟨_, rfl⟩
  have ex2 : x * (d : Rat) = (n : Rat) := by rw [ex]; grind
  rw [e, ← ex]
  refine ⟨?_, ?_, ((n * c : Nat) : Int), ?_⟩
  · refine Rat.not_lt.mp fun z => ?_
    have := Rat.mul_pos (a := -x) (b := (d : Rat)) (by grind) d0
    grind
  · refine Rat.not_lt.mp fun z => ?_
    have := Rat.mul_pos (a := x - (M : Rat)) (b := (d : Rat)) (by grind) d0
    grind
  · push_cast
    grind
theorem In.add {D M N : Nat} {p q : Rat} (h : In D M p) (g : In D N q) : In D (M + N) (p + q) := by
  obtain ⟨a, ea⟩ := h.ex
  obtain ⟨b, eb⟩ := g.ex
  have := h.nn; have := h.le; have := g.nn; have := g.le
  refine ⟨by grind, by push_cast; grind, a + b, by push_cast; grind⟩
theorem In.sub {D M N : Nat} {p q : Rat} (h : In D M p) (g : In D N q) (e : q ≤ p) : In D M (p - q) := by
  obtain ⟨a, ea⟩ := h.ex
  obtain ⟨b, eb⟩ := g.ex
  have := h.nn; have := h.le; have := g.nn; have := g.le
  refine ⟨by grind, by grind, a - b, by push_cast; grind⟩
theorem In.lmin {D M N : Nat} {p q : Rat} (h : In D M p) (g : In D N q) : In D N (lmin p q) := by
  unfold Yk.lmin
  split
  · exact g
  · exact h.of_le (by have := g.le; grind)
theorem In.lmin1 {D M N : Nat} {p q : Rat} (h : In D M p) (g : In D N q) : In D M (Yk.lmin p q) := by
  unfold Yk.lmin
  split
  · exact g.of_le (by have := h.le; grind)
  · exact h
theorem In.lmax {D M : Nat} {p q : Rat} (h : In D M p) (g : In D M q) : In D M (lmax p q) := by
  unfold Yk.lmax
  split
  · exact h
  · exact g
theorem In.mulN {D M : Nat} {q : Rat} (h : In D M q) (w : Nat) : In D (w * M) ((w : Rat) * q) := by
  obtain ⟨a, ea⟩ := h.ex
  have w0 : (0 : Rat) ≤ (w : Rat) := natQ (Nat.zero_le w)
  refine ⟨Rat.mul_nonneg w0 h.nn, ?_, (w : Int) * a, by push_cast; grind⟩
  push_cast
  exact Rat.mul_le_mul_of_nonneg_left h.le w0
theorem In.mul {D D' M N : Nat} {p q : Rat} (h : In D M p) (g : In D' N q) : In (D * D') (M * N) (p * q) := by
  obtain ⟨a, ea⟩ := h.ex
  obtain ⟨b, eb⟩ := g.ex
  have h1 : p * q ≤ (M : Rat) * q := Rat.mul_le_mul_of_nonneg_right h.le g.nn
  have h2 : (M : Rat) * q ≤ (M : Rat) * (N : Rat) := Rat.mul_le_mul_of_nonneg_left g.le (natQ (Nat.zero_le M))
  refine ⟨Rat.mul_nonneg h.nn g.nn, by push_cast; exact Rat.le_trans h1 h2, a * b, ?_⟩
  push_cast
  rw [← ea, ← eb]
  grind
theorem In.divN {D M w : Nat} {q : Rat} (h : In D M q) (hw : 0 < w) : In (D * w) M (q / (w : Rat)) := by
  obtain ⟨a, ea⟩ := h.ex
  have w0 := natP hw
  obtain ⟨x, ex⟩ : ∃ x : Rat, x = q / (w : Rat) := ⟨_, rfl⟩
  have ex2 : x * (w : Rat) = q := by rw [ex]; grind
  have w1 : (1 : Rat) ≤ (w : Rat) := by exact_mod_cast hw
  have x0 : 0 ≤ x := by
    refine Rat.not_lt.mp fun z => ?_
    have := Rat.mul_pos (a := -x) (b := (w : Rat)) (by grind) w0
    have := h.nn
    grind
  rw [← ex]
  refine ⟨x0, ?_, a, by push_cast; grind⟩
  have h1 : x * 1 ≤ x * (w : Rat) := Rat.mul_le_mul_of_nonneg_left w1 x0
  have := h.le
  grind
theorem In.half {D M : Nat} {q : Rat} (h : In D M q) : In (D * 2) M (q * (1 / 2)) := by
  have := h.divN (w := 2) (by decide)
  have e : q / ((2 : Nat) : Rat) = q * (1 / 2) := by push_cast; grind
  rw [e] at this
  exact this
/-- the point on a line, its size -/
theorem In.onl {E M B : Nat} {g tl tu l u : Rat} (h0 : 0 < E) (hg : In E B g) (htl : In E B tl) (htu : In E B tu) (hl : In E M l) (hu : In E M u) (h1 : tl < g) (h2 : g ≤ tu) (h3 : l ≤ u) :
    ∃ X, 0 < X ∧ E ∣ X ∧ X ≤ E * (B * E) ∧ In X M (l + (g - tl) * (u - l) / (tu - tl)) ∧ In E B (g - tl) ∧ In E B (tu - tl) ∧ In E M (u - l) := by
  have ig := hg.sub htl (by grind)
  have ir := htu.sub htl (by grind)
  have iu := hu.sub hl h3
  obtain ⟨n1, e1⟩ := ig.ex
  obtain ⟨n3, e3⟩ := ir.ex
  obtain ⟨n2, e2⟩ := iu.ex
  obtain ⟨n0, e0⟩ := hl.ex
  have E0 := natP h0
  have r0 : 0 < tu - tl := by grind
  have n30 : 0 < n3 := by
    have h := Rat.mul_pos r0 E0
    rw [e3] at h
    exact_mod_cast h
  have n3m : n3 ≤ ((B * E : Nat) : Int) := by
    have h : (tu - tl) * (E : Rat) ≤ (B : Rat) * (E : Rat) := Rat.mul_le_mul_of_nonneg_right ir.le (by grind)
    rw [e3] at h
    have h2 : ((n3 : Int) : Rat) ≤ (((B * E : Nat) : Int) : Rat) := by push_cast; exact h
    exact_mod_cast h2
  have en : ((n3.toNat : Nat) : Int) = n3 := by omega
  have eq : ((n3.toNat : Nat) : Rat) = (n3 : Rat) := by rw [← en]; norm_cast
  refine ⟨E * n3.toNat, Nat.mul_pos h0 (by omega), Nat.dvd_mul_right _ _, Nat.mul_le_mul_left _ (by omega), ?_, ig, ir, iu⟩
  obtain ⟨y, ey⟩ : ∃ y, y = (g - tl) * (u - l) / (tu - tl) := ⟨_, rfl⟩
  have ey2 : y * (tu - tl) = (g - tl) * (u - l) := by rw [ey]; grind
  rw [← ey]
  have y0 : 0 ≤ y := by
    refine Rat.not_lt.mp fun z => ?_
    have h1 := Rat.mul_pos (a := -y) (b := tu - tl) (by grind) r0
    have h2 := Rat.mul_nonneg ig.nn iu.nn
    grind
  have y1 : y ≤ u - l := by
    refine Rat.not_lt.mp fun z => ?_
    have h1 := Rat.mul_pos (a := y - (u - l)) (b := tu - tl) (by grind) r0
    have h2 := Rat.mul_nonneg (a := tu - g) (b := u - l) (by grind) iu.nn
    grind
  refine ⟨by have := hl.nn; grind, by have := hu.le; grind, n0 * n3 + n1 * n2, ?_⟩
  have h5 : y * (E : Rat) * (n3 : Rat) = (n1 : Rat) * (n2 : Rat) := by
    rw [← e3, ← e1, ← e2]
    grind
  push_cast
  rw [eq, ← e0]
  grind

theorem sumQ_map_perm {rows rows' : List Row} (p : rows.Perm rows') (x : Rat) : tot rows x = tot rows' x := sumQ_perm (p.map fun r => r.at_ x)
theorem tot_perm {rows rows' : List Row} (p : rows.Perm rows') : tot rows = tot rows' := funext (sumQ_map_perm p)
/-- what a row may be -/
structure RowOk (D M : Nat) (r : Row) : Prop where
  w0 : 0 < r.w
  w12 : r.w ≤ 12
  b : In D M r.b
  m : ∀ l u, r.man = some (l, u) → In D M l ∧ In D M u
theorem RowOk.up {D D' M : Nat} {r : Row} (h : RowOk D M r) (hd : D ∣ D') : RowOk D' M r := ⟨h.w0, h.w12, h.b.up hd, fun l u e => ⟨(h.m l u e).1.up hd, (h.m l u e).2.up hd⟩⟩
theorem shq_in {X M N w : Nat} {man : Option (Rat × Rat)} {x : Rat} (hm : ∀ l u, man = some (l, u) → In X M l ∧ In X M u) (hx : In X N x) : In X M (shq man w x) := by
  cases man with
  | none => exact In.zero
  | some p =>
    obtain ⟨l, u⟩ := p
    obtain ⟨h1, h2⟩ := hm l u rfl
    exact h1.lmax (h2.lmin1 (hx.mulN w))
theorem RowOk.at_ {X M N : Nat} {r : Row} {x : Rat} (h : RowOk X M r) (hx : In X N x) : In X M (r.at_ x) := shq_in h.m (hx.lmin h.b)
theorem tot_in {X M N : Nat} {x : Rat} (hx : In X N x) : ∀ {rows : List Row}, (∀ r ∈ rows, RowOk X M r) → In X (rows.length * M) (tot rows x)
  | [], _ => In.zero
  | r :: rows, h => by
    rw [tot_cons]
    have h1 := (h r List.mem_cons_self).at_ hx
    have h2 := tot_in hx (rows := rows) fun r hr => h r (List.mem_cons_of_mem _ hr)
    have h3 := h1.add h2
    rw [List.length_cons, Nat.add_mul, Nat.one_mul, Nat.add_comm]
    exact h3
theorem in_brk {D M : Nat} {r : Row} (h : RowOk D M r) : ∀ p ∈ r.brk, In (D * 27720) M p := by
  have hw : D * r.w ∣ D * 27720 := Nat.mul_dvd_mul_left D (by
    have a := h.w0
    have b := h.w12
    generalize r.w = w at a b
    have : w = 1 ∨ w = 2 ∨ w = 3 ∨ w = 4 ∨ w = 5 ∨ w = 6 ∨ w = 7 ∨ w = 8 ∨ w = 9 ∨ w = 10 ∨ w = 11 ∨ w = 12 := by omega
    rcases this with rfl | rfl | rfl | rfl | rfl | rfl | rfl | rfl | rfl | rfl | rfl | rfl <;> decide)
  intro p hp
  unfold Row.brk at hp
  split at hp
  · rw [List.mem_singleton.mp hp]
    exact h.b.up (Nat.dvd_mul_right _ _)
  · rename_i l u e
    obtain ⟨h1, h2⟩ := h.m l u e
    simp only [List.mem_cons, List.not_mem_nil, or_false] at hp
    rcases hp with rfl | rfl | rfl
    · exact (h1.divN h.w0).up hw
    · exact (h2.divN h.w0).up hw
    · exact h.b.up (Nat.dvd_mul_right _ _)
end Yk

set_option maxHeartbeats 4000000
namespace Yk
open PySem PySem.Spec PyProof.Rows L2

section
variable {K : PySem.W.Frag} {H H1 : Hp} {Q : VK}
def ManIs (K : PySem.W.Frag) (H : Hp) (v : V) : Option (Rat × Rat) → Prop
  | none => ∃ a, v = .ref a ∧ SqT K H a []
  | some p => ∃ a v1 v2, v = .ref a ∧ SqT K H a [v1, v2] ∧ Am K H v1 p.1 ∧ Am K H v2 p.2
theorem ManIs.x {S : List Addr} {v : V} {man : Option (Rat × Rat)} (e : Ext S H H1) (h : ManIs K H v man) (hs : ∀ b ∈ S, ∃ l, H b = some (.lst l)) : ManIs K H1 v man := by
  cases man with
  | none => obtain ⟨a, rfl, h⟩ := h; exact ⟨a, rfl, tupX e h hs⟩
  | some p => obtain ⟨a, v1, v2, rfl, h, a1, a2⟩ := h; exact ⟨a, v1, v2, rfl, tupX e h hs, a1.x e hs, a2.x e hs⟩
theorem ManIs.x0 {v : V} {man : Option (Rat × Rat)} (e : Ext [] H H1) (h : ManIs K H v man) : ManIs K H1 v man := h.x e fun _ z => nomatch z
def RowIs (K : PySem.W.Frag) (H : Hp) (v : V) (r : Row) : Prop := ∃ a mv bv, v = .ref a ∧ SqT K H a [mv, .int (r.w : Int), bv] ∧ ManIs K H mv r.man ∧ Am K H bv r.b
theorem RowIs.x {S : List Addr} {v : V} {r : Row} (e : Ext S H H1) (h : RowIs K H v r) (hs : ∀ b ∈ S, ∃ l, H b = some (.lst l)) : RowIs K H1 v r := by
  obtain ⟨a, mv, bv, rfl, h, h1, h2⟩ := h
  exact ⟨a, mv, bv, rfl, tupX e h hs, h1.x e hs, h2.x e hs⟩
theorem RowIs.x0 {v : V} {r : Row} (e : Ext [] H H1) (h : RowIs K H v r) : RowIs K H1 v r := h.x e fun _ z => nomatch z
def RowsIs (K : PySem.W.Frag) (H : Hp) (xs : List V) (rows : List Row) : Prop := Rel (RowIs K H) xs rows
theorem RowsIs.x {S : List Addr} {xs : List V} {rows : List Row} (e : Ext S H H1) (h : RowsIs K H xs rows) (hs : ∀ b ∈ S, ∃ l, H b = some (.lst l)) : RowsIs K H1 xs rows := h.imp fun _ _ z => z.x e hs
theorem RowsIs.x0 {xs : List V} {rows : List Row} (e : Ext [] H H1) (h : RowsIs K H xs rows) : RowsIs K H1 xs rows := h.imp fun _ _ z => z.x0 e
theorem bagS {b : Bag} (hb : BagAt K H b) : ∀ c ∈ [b.a], ∃ l, H c = some (.lst l) := fun c hc => by rw [List.mem_singleton.mp hc]; exact hb.lst
theorem lstS1 {c : Addr} {l : List V} (h : H c = some (.lst l)) : ∀ x ∈ [c], ∃ l, H x = some (.lst l) := fun x hx => by rw [List.mem_singleton.mp hx]; exact ⟨l, h⟩
theorem extW {c : Addr} {o : HO} : Ext [c] H (upd H c o) := Ext.refl.at_ List.mem_cons_self
theorem Am.w {c : Addr} {l l' : List V} {v : V} {q : Rat} (h : H c = some (.lst l)) (a : Am K H v q) : Am K (upd H c (.lst l')) v q := a.x extW (lstS1 h)
theorem Ams.w {c : Addr} {l l' : List V} {v : List V} {q : List Rat} (h : H c = some (.lst l)) (a : Ams K H v q) : Ams K (upd H c (.lst l')) v q := a.x extW (lstS1 h)
theorem RowIs.w {c : Addr} {l l' : List V} {v : V} {r : Row} (h : H c = some (.lst l)) (a : RowIs K H v r) : RowIs K (upd H c (.lst l')) v r := a.x extW (lstS1 h)
theorem RowsIs.w {c : Addr} {l l' : List V} {v : List V} {r : List Row} (h : H c = some (.lst l)) (a : RowsIs K H v r) : RowsIs K (upd H c (.lst l')) v r := a.x extW (lstS1 h)
/-! equality -/
theorem dp_am {v : V} {q : Rat} (h : Am K H v q) : Dp K H v (.tuple [.int q.num, .int (q.den : Int)]) := by
  obtain ⟨a, rfl, h⟩ := h
  exact .tup h (.cons (.int _) (.cons (.int _) .nil))
theorem rat_eq {p q : Rat} : p = q ↔ p.num = q.num ∧ p.den = q.den := ⟨fun h => by rw [h]; exact ⟨rfl, rfl⟩, fun h => Rat.ext h.1 h.2⟩
theorem eq_am {v w : V} {p q : Rat} (h : Am K H v p) (g : Am K H w q) (k : Q (.bl (decide (p = q))) H) : rEqD K v w H Q := by
  refine ⟨_, _, dp_am h, dp_am g, rfl, rfl, ?_⟩
  have e : PyData.eqv (.tuple [.int p.num, .int (p.den : Int)]) (.tuple [.int q.num, .int (q.den : Int)]) = decide (p = q) := by
    rw [Bool.eq_iff_iff]
    simp [PyData.eqv, PyData.eqvAll, rat_eq]
    omega
  rw [e]
  exact k
theorem ne_am {v w : V} {p q : Rat} (h : Am K H v p) (g : Am K H w q) (k : Q (.bl (!decide (p = q))) H) : rNeD K v w H Q := by
  refine ⟨_, _, dp_am h, dp_am g, rfl, rfl, ?_⟩
  have e : PyData.eqv (.tuple [.int p.num, .int (p.den : Int)]) (.tuple [.int q.num, .int (q.den : Int)]) = decide (p = q) := by
    rw [Bool.eq_iff_iff]
    simp [PyData.eqv, PyData.eqvAll, rat_eq]
    omega
  rw [e]
  exact k
theorem eq_man {v : V} {man : Option (Rat × Rat)} {p : Addr} (h : ManIs K H v man) (g : SqT K H p []) (k : Q (.bl man.isNone) H) : rEqD K v (.ref p) H Q := by
  cases man with
  | none => obtain ⟨a, rfl, h⟩ := h; exact ⟨.tuple [], .tuple [], .tup h .nil, .tup g .nil, rfl, rfl, k⟩
  | some q => obtain ⟨a, v1, v2, rfl, h, a1, a2⟩ := h; exact ⟨_, .tuple [], .tup h (.cons (dp_am a1) (.cons (dp_am a2) .nil)), .tup g .nil, rfl, rfl, k⟩
theorem ne_man {v : V} {man : Option (Rat × Rat)} {p : Addr} (h : ManIs K H v man) (g : SqT K H p []) (k : Q (.bl (!man.isNone)) H) : rNeD K v (.ref p) H Q := by
  cases man with
  | none => obtain ⟨a, rfl, h⟩ := h; exact ⟨.tuple [], .tuple [], .tup h .nil, .tup g .nil, rfl, rfl, k⟩
  | some q => obtain ⟨a, v1, v2, rfl, h, a1, a2⟩ := h; exact ⟨_, .tuple [], .tup h (.cons (dp_am a1) (.cons (dp_am a2) .nil)), .tup g .nil, rfl, rfl, k⟩
theorem am_nat {a : Addr} {w : Nat} (h : SqT K H a [.int (w : Int), .int 1]) : Am K H (.ref a) (w : Rat) := ⟨a, rfl, h⟩
theorem sz_nat {w m : Nat} (h : w < 2 ^ m) (h0 : 0 < m) : Sz m (w : Rat) := ⟨h, Nat.lt_of_lt_of_le (by decide : 1 < 2 ^ 1) (Nat.pow_le_pow_right (by decide) h0)⟩
theorem mk_w (w : Nat) {q : Rat} (h : 0 ≤ q) : mkRat ((w * q.num.toNat : Nat) : Int) q.den = (w : Rat) * q := by
  have hn := num_nn h
  have e : ((w * q.num.toNat : Nat) : Int) = (w : Int) * q.num := by push_cast; rw [Int.toNat_of_nonneg hn]
  rw [e, Rat.mkRat_eq_div]
  have hd := natP q.den_pos
  have e2 : (q.num : Rat) / (q.den : Rat) = q := by rw [← Rat.mkRat_eq_div]; exact Rat.mkRat_self q
  push_cast
  grind
theorem maxQ1 (a b : Rat) : maxQ a [b] = lmax a b := (lmax_eq a b).symm
theorem minQ1 (a b : Rat) : minQ a [b] = lmin a b := rfl
theorem lmin_comm (a b : Rat) : lmin a b = lmin b a := by unfold lmin; grind
theorem lmax_comm (a b : Rat) : lmax a b = lmax b a := by unfold lmax; grind
theorem k_min2 {v w : V} {p q : Rat} {E : XK} (a : Am K H v p) (b : Am K H w q) (z1 : Sz 4000 p) (z2 : Sz 4000 q) (k : ∀ v H', Ext [] H H' → Am K H' v (lmin p q) → Q v H') : spMin minQ K [v, w] H Q E :=
  ⟨p, [q], Ams.cons a (Ams.cons b Ams.nil), fun x hx => by
    rcases List.mem_cons.mp hx with rfl | hx
    · exact z1
    · rw [List.mem_singleton.mp hx]; exact z2, by simp, k⟩
theorem k_max2 {v w : V} {p q : Rat} {E : XK} (a : Am K H v p) (b : Am K H w q) (z1 : Sz 4000 p) (z2 : Sz 4000 q) (k : ∀ v H', Ext [] H H' → Am K H' v (lmax p q) → Q v H') : spMin maxQ K [v, w] H Q E :=
  ⟨p, [q], Ams.cons a (Ams.cons b Ams.nil), fun x hx => by
    rcases List.mem_cons.mp hx with rfl | hx
    · exact z1
    · rw [List.mem_singleton.mp hx]; exact z2, by simp, fun v H' e c => k v H' e (by rw [← maxQ1]; exact c)⟩
theorem sz_min {m : Nat} {p q : Rat} (h : Sz m p) (g : Sz m q) : Sz m (lmin p q) := by unfold lmin; split <;> assumption
theorem sz_max {m : Nat} {p q : Rat} (h : Sz m p) (g : Sz m q) : Sz m (lmax p q) := by unfold lmax; split <;> assumption
end
section
variable {P : Program} {w : World} {K : PySem.W.Frag} {mg : Str → Option Value} {base : Heap} {f : Addr} {fd : FuncData}
def ManSz (n : Nat) (man : Option (Rat × Rat)) : Prop := ∀ l u, man = some (l, u) → Sz n l ∧ Sz n u
def spShare (K : PySem.W.Frag) : Sp := fun vs H Q _ => ∃ (m x : V) (wt : Nat) (man : Option (Rat × Rat)) (q : Rat), vs = [m, .int (wt : Int), x] ∧ ManIs K H m man ∧ Am K H x q ∧ wt ≤ 12 ∧ ManSz 2000 man ∧ Sz 2000 q ∧ RetAm K H Q (shq man wt q)
abbrev s_share : Stmt := top 26
theorem c_share : FnScope ["manner", "weight", "level", "least", "most"] ["manner", "weight", "level"] (defScope s_share) := ⟨rfl, rfl, rfl, by decide +kernel, rfl, by decide +kernel, by decide +kernel⟩
theorem f_share (F : FunD K "share" "share" (defArgs s_share) (defBody s_share) (defScope s_share) [] [] f fd) (hm : mg "share" = some (.ref f)) (TZ : ∃ z, mg "ZERO" = some (.ref z) ∧ ∀ H, SqT K H z [.int 0, .int 1]) (Ftimes : Fn P w K mg base 2 "times" (spTimes K)) (Fsmallest : Fn P w K mg base 2 "smallest" (spMin minQ K)) (Flargest : Fn P w K mg base 2 "largest" (spMin maxQ K)) : FnOk P w K mg base CX0 3 f fd ["manner", "weight", "level"] (spShare K) := by
  refine ok_def F c_share (fun vs H Q E h => ?_) (fun cdv A outer s H vs Q E hr h => ?_)
  · obtain ⟨m, x, wt, man, q, rfl, _⟩ := h
    rfl
  · obtain ⟨m, x, wt, man, q, rfl, hm, hx, h12, zm, zx, k⟩ := h
    have nd := c_share.nd
    obtain ⟨z, mz, hz⟩ := TZ
    refine ⟨_, (pss_cons (ps_if (pt_cmpR (op_eqD hr.units) (pv 0) (pe_tup pa_nil) (nomark _))
        (pss_one (ps_ret (pe_glob (v := .ref z) rfl mz rfl)))
        pss_nil)
      (pss_cons (ps_asg (pv 0) (pg_tup rfl (pgs_cons (pg_name (i := 3) nd rfl (by first | exact Or.inl rfl | exact Or.inr rfl)) (pgs_cons (pg_name (i := 4) nd rfl (by first | exact Or.inl rfl | exact Or.inr rfl)) pgs_nil))))
      (pss_one (ps_ret (pe_fn Flargest (hr.mono (by decide)) (pa_cons (pv 3) (pa_cons (pe_fn Fsmallest (hr.mono (by decide)) (pa_cons (pv 4) (pa_cons (pe_fn Ftimes (hr.mono (by decide)) (pa_cons (pe_tup (pa_cons (pv 1) (pa_cons pe_int pa_nil))) (pa_cons (pv 2) pa_nil))) pa_nil))) pa_nil))))))), ?_⟩
    show (_ : TS) _ [some _, some _, some _, none, none] _
    try dsimp only [cxOf, Cx.nox]
    walk_at "go"
    refine eq_man (hm.x0 (Ext.refl.new (by assumption))) tupS ?_
    walk_at "go"
    cases man with
    | none =>
      walk_at "run"
      exact k _ _ (by walk_at "ext") ⟨z, rfl, hz _⟩
    | some p =>
      obtain ⟨l, u⟩ := p
      obtain ⟨zl, zu⟩ := zm l u rfl
      obtain ⟨a, v1, v2, rfl, ht, a1, a2⟩ := hm
      walk_at "run"
      refine k_times (am_nat tupS) (by walk_at "am") ((sz_nat (m := 4) (by omega) (by decide)).mono (by decide)) (zx.mono (by decide)) fun v3 H3 n3 a3 => ?_
      walk_at "go"
      have z3 : Sz 2004 ((wt : Rat) * q) := (sz_mul (sz_nat (m := 4) (by omega) (by decide)) zx).mono (by decide)
      refine k_min2 (by walk_at "am") a3 (zu.mono (by decide)) (z3.mono (by decide)) fun v4 H4 n4 a4 => ?_
      walk_at "go"
      have z4 : Sz 4000 (lmin u ((wt : Rat) * q)) := sz_min (zu.mono (by decide)) (z3.mono (by decide))
      refine k_max2 (by walk_at "am") a4 (zl.mono (by decide)) z4 fun v5 H5 n5 a5 => ?_
      walk_at "go"
      exact k _ _ (by walk_at "ext") a5
/-- rows of shares, carried through a list of them -/
theorem rowSz {X M j m : Nat} {r : Row} (h : RowOk X M r) (h0 : 0 < X) (hX : X ≤ 2 ^ j) (hM : M ≤ 2 ^ m) : ManSz (j + m + 1) r.man ∧ Sz (j + m + 1) r.b := ⟨fun l u e => ⟨(h.m l u e).1.sz h0 hX hM, (h.m l u e).2.sz h0 hX hM⟩, h.b.sz h0 hX hM⟩
/-- amounts in the row, all in step -/
structure TotOk (X M N : Nat) (rows : List Row) (x : Rat) : Prop where
  X0 : 0 < X
  X9 : X ≤ 2 ^ 400
  M9 : M ≤ 2 ^ 20
  N9 : N ≤ 2 ^ 120
  row : ∀ r ∈ rows, RowOk X M r
  x : In X N x
  n : rows.length ≤ 8
def spTotal (K : PySem.W.Frag) : Sp := fun vs H Q _ => ∃ (a : Addr) (xs : List V) (rows : List Row) (v : V) (x : Rat) (X M N : Nat), vs = [.ref a, v] ∧ SqQ K H a xs ∧ RowsIs K H xs rows ∧ Am K H v x ∧ TotOk X M N rows x ∧ RetAm K H Q (tot rows x)
theorem take_map {α : Type} {f : Row → α} {rows : List Row} {i : Nat} {r : Row} (h : rows[i]? = some r) : (rows.take (i + 1)).map f = (rows.take i).map f ++ [f r] := by
  obtain ⟨hl, e⟩ := List.getElem?_eq_some_iff.mp h
  rw [← List.take_append_getElem hl, List.map_append, e]
  rfl
end
end Yk

set_option maxHeartbeats 4000000
namespace Yk
open PySem PySem.Spec PyProof.Rows L2
/-! Dicts: the general part. What stands through a lock, walks over keys, values and items, comprehensions; tables. -/
/-! What stands through the lock of a dict. -/
theorem tupD {K : PySem.W.Frag} {H H1 : Hp} {a t : Addr} {kv : List (Key × V)} {xs : List V} (e : Ext [a] H H1) (ha : H a = some (.dK kv)) (h : SqT K H t xs) : SqT K H1 t xs := by
  have ne : ∀ o, H t = some o → (∀ kv, o ≠ .dK kv) → t ∉ [a] := fun o ho hn z => by
    rw [List.mem_singleton.mp z, ha] at ho
    exact hn _ (Option.some.inj ho).symm
  rcases h with (h | ⟨o, h⟩) | h
  · exact .inl (.inl (e _ _ h (ne _ h fun _ z => nomatch z)))
  · exact .inl (.inr ⟨o, e _ _ h (ne _ h fun _ z => nomatch z)⟩)
  · exact .inr h
theorem Am.d {K : PySem.W.Frag} {H H1 : Hp} {a : Addr} {kv : List (Key × V)} {v : V} {q : Rat} (e : Ext [a] H H1) (ha : H a = some (.dK kv)) (h : Am K H v q) : Am K H1 v q := by
  obtain ⟨t, rfl, h⟩ := h
  exact ⟨t, rfl, tupD e ha h⟩
theorem sqqD {K : PySem.W.Frag} {H H1 : Hp} {a t : Addr} {kv : List (Key × V)} {xs : List V} (e : Ext [a] H H1) (ha : H a = some (.dK kv)) (h : SqQ K H t xs) : SqQ K H1 t xs := by
  rcases h with h | h
  · refine .inl ?_
    have ne : ∀ o, H t = some o → (∀ kv, o ≠ .dK kv) → t ∉ [a] := fun o ho hn z => by
      rw [List.mem_singleton.mp z, ha] at ho
      exact hn _ (Option.some.inj ho).symm
    rcases h with (h | ⟨o, h⟩) | h
    · exact .inl (.inl (e _ _ h (ne _ h fun _ z => nomatch z)))
    · exact .inl (.inr ⟨o, e _ _ h (ne _ h fun _ z => nomatch z)⟩)
    · exact .inr h
  · exact .inr (tupD e ha h)
theorem Ams.d {K : PySem.W.Frag} {H H1 : Hp} {a : Addr} {kv : List (Key × V)} {vs : List V} {qs : List Rat} (e : Ext [a] H H1) (ha : H a = some (.dK kv)) (h : Ams K H vs qs) : Ams K H1 vs qs := ⟨h.1, fun i v q a b => (h.2 i v q a b).d e ha⟩
/-- no tuple stands at these -/
def NoTup (H : Hp) (S : List Addr) : Prop := ∀ b ∈ S, ∃ o, H b = some o ∧ (∀ xs, o ≠ .tup xs) ∧ ∀ u xs, o ≠ .frz u (.tup xs)
theorem tupF {S : List Addr} {K : PySem.W.Frag} {H H1 : Hp} {a : Addr} {xs : List V} (e : Ext S H H1) (h : SqT K H a xs) (hs : NoTup H S) : SqT K H1 a xs := by
  rcases h with (h | ⟨o, h⟩) | h
  · exact .inl (.inl (e a _ h fun z => by obtain ⟨o, q, n, _⟩ := hs a z; rw [h] at q; cases q; exact n _ rfl))
  · exact .inl (.inr ⟨o, e a _ h fun z => by obtain ⟨o, q, _, n⟩ := hs a z; rw [h] at q; cases q; exact n _ _ rfl⟩)
  · exact .inr h
theorem Am.f {S : List Addr} {K : PySem.W.Frag} {H H1 : Hp} {v : V} {q : Rat} (e : Ext S H H1) (hs : NoTup H S) (h : Am K H v q) : Am K H1 v q := by
  obtain ⟨a, rfl, h⟩ := h
  exact ⟨a, rfl, tupF e h hs⟩
/-- no list stands at these -/
def NoLst (H : Hp) (S : List Addr) : Prop := ∀ b ∈ S, ∃ o, H b = some o ∧ (∀ xs, o ≠ .lst xs) ∧ ∀ u xs, o ≠ .frz u (.lst xs)
theorem lstF {S : List Addr} {K : PySem.W.Frag} {H H1 : Hp} {a : Addr} {xs : List V} (e : Ext S H H1) (h : SqL K H a xs) (hs : NoLst H S) : SqL K H1 a xs := by
  rcases h with (h | ⟨o, h⟩) | h
  · exact .inl (.inl (e a _ h fun z => by obtain ⟨o, q, n, _⟩ := hs a z; rw [h] at q; cases q; exact n _ rfl))
  · exact .inl (.inr ⟨o, e a _ h fun z => by obtain ⟨o, q, _, n⟩ := hs a z; rw [h] at q; cases q; exact n _ _ rfl⟩)
  · exact .inr h
theorem BagAt.f {S : List Addr} {K : PySem.W.Frag} {H H1 : Hp} {b : Bag} (h : BagAt K H b) (e : Ext S H H1) (hs : NoLst H S) : BagAt K H1 b := by
  obtain ⟨l, h1, h2, h3, h4⟩ := h.ex
  exact ⟨l, e _ _ h1 fun z => (by obtain ⟨o, q, n, _⟩ := hs _ z; rw [h1] at q; cases q; exact n _ rfl), lstF e h2 hs, h3, h4⟩
theorem no_ins {H : Hp} {a C dx : Addr} {fs : List (Str × V)} (h : H a = some (.ins C dx fs)) : NoTup H [a] ∧ NoLst H [a] :=
  ⟨fun b hb => by rw [List.mem_singleton.mp hb]; exact ⟨_, h, (fun _ z => nomatch z), fun _ _ z => nomatch z⟩, fun b hb => by rw [List.mem_singleton.mp hb]; exact ⟨_, h, (fun _ z => nomatch z), fun _ _ z => nomatch z⟩⟩
theorem no_dk {H : Hp} {a : Addr} {l : List (Key × V)} (h : H a = some (.dK l)) : NoTup H [a] ∧ NoLst H [a] :=
  ⟨fun b hb => by rw [List.mem_singleton.mp hb]; exact ⟨_, h, (fun _ z => nomatch z), fun _ _ z => nomatch z⟩, fun b hb => by rw [List.mem_singleton.mp hb]; exact ⟨_, h, (fun _ z => nomatch z), fun _ _ z => nomatch z⟩⟩
theorem no_lst {H : Hp} {a : Addr} {l : List V} (h : H a = some (.lst l)) : NoTup H [a] := fun b hb => by rw [List.mem_singleton.mp hb]; exact ⟨_, h, (fun _ z => nomatch z), fun _ _ z => nomatch z⟩
theorem NoTup.app {H : Hp} {S T : List Addr} (h : NoTup H S) (g : NoTup H T) : NoTup H (S ++ T) := fun b hb => (List.mem_append.mp hb).elim (h b) (g b)
/-- a table by keys -/
def gv {κ α : Type} [DecidableEq κ] (c : List (κ × α)) (k : κ) : Option α := (c.find? fun p => decide (p.1 = k)).map (·.2)
def gp {κ α : Type} [DecidableEq κ] (c : List (κ × α)) (k : κ) (y : α) : List (κ × α) := if (c.any fun p => decide (p.1 = k)) = true then c.map (fun p => if p.1 = k then (p.1, y) else p) else c ++ [(k, y)]
/-- two tables with the same keys, their values alike -/
inductive TR {κ α : Type} (R : V → α → Prop) : List (κ × V) → List (κ × α) → Prop
  | nil : TR R [] []
  | cons {k : κ} {v : V} {y : α} {l : List (κ × V)} {c : List (κ × α)} : R v y → TR R l c → TR R ((k, v) :: l) ((k, y) :: c)
section
variable {κ α : Type} [DecidableEq κ] {R R' : V → α → Prop} {l : List (κ × V)} {c : List (κ × α)} {k : κ} {v : V} {y : α}
theorem TR.imp (f : ∀ v y, R v y → R' v y) (h : TR R l c) : TR R' l c := by
  induction h with
  | nil => exact .nil
  | cons a _ ih => exact .cons (f _ _ a) ih
theorem TR.len (h : TR R l c) : l.length = c.length := by
  induction h with
  | nil => rfl
  | cons a _ ih => simp [ih]
theorem TR.val (h : TR R l c) (k : κ) : (valV l k = none ∧ gv c k = none) ∨ ∃ v y, valV l k = some v ∧ gv c k = some y ∧ R v y := by
  induction h with
  | nil => exact .inl ⟨rfl, rfl⟩
  | @cons k' v y l c a _ ih =>
    by_cases e : k' = k
    · subst e
      exact .inr ⟨v, y, valV_pos rfl, by simp [gv], a⟩
    · have e1 : gv ((k', y) :: c) k = gv c k := by simp [gv, List.find?_cons, e]
      rw [valV_neg (p := (k', v)) e, e1]
      exact ih
theorem TR.any (h : TR R l c) (k : κ) : (l.any fun p => decide (p.1 = k)) = (c.any fun p => decide (p.1 = k)) := by
  induction h with
  | nil => rfl
  | cons a _ ih => rw [List.any_cons, List.any_cons, ih]
theorem TR.repl (h : TR R l c) (a : R v y) : TR R (l.map fun kv => if kv.1 = k then (kv.1, v) else kv) (c.map fun p => if p.1 = k then (p.1, y) else p) := by
  induction h with
  | nil => exact .nil
  | @cons k' v' y' l c b _ ih =>
    rw [List.map_cons, List.map_cons]
    by_cases e : k' = k
    · rw [if_pos e, if_pos e]; exact .cons a ih
    · rw [if_neg e, if_neg e]; exact .cons b ih
theorem TR.app {l2 : List (κ × V)} {c2 : List (κ × α)} (h : TR R l c) (g : TR R l2 c2) : TR R (l ++ l2) (c ++ c2) := by
  induction h with
  | nil => exact g
  | cons b _ ih => exact .cons b ih
theorem TR.put (h : TR R l c) (a : R v y) : TR R (putK l k v) (gp c k y) := by
  unfold putK gp
  rw [h.any k]
  split
  · exact h.repl a
  · exact h.app (.cons a .nil)
end
section
variable {K : PySem.W.Frag} {H : Hp} {Q : VK} {σ : L2.St} {wi : TI} {g : TG} {tt : TT} {tk tv td ty : TE} {vs : List Nat}
theorem r_dget (h : td σ H fun x H1 => ty σ H1 fun y H2 => ∃ a v, x = .ref a ∧ DGet H2 a y (some v) ∧ Q v H2) : tDGet td ty σ H Q := h
theorem r_dc (h : wi σ H fun J H1 => ∀ D, H1 D = none → ∃ W : Nat → Nat → Hp → Prop, (∃ m, W 0 m (upd H1 D (.dK []))) ∧ ∀ i m H, W i m H →
  (J.stop i H ∧ Q (.ref D) H) ∨ (J.go i H ∧ ∃ Nx : Hp → Prop, (∀ H', Nx H' → ∃ m', m' < m ∧ W (i + 1) m' H') ∧ ∀ x H', J.yld i H x H' → g x (wipe σ vs) H' fun σ2 H2 => wipe σ2 vs = wipe σ vs ∧ tt σ2 H2 fun b H3 =>
    if b = true then tk σ2 H3 fun y H4 => tv σ2 H4 fun z H5 => ∃ kvs k, y = kV k ∧ H5 D = some (.dK kvs) ∧ kvs.length < sizeLine ∧ Nx (upd H5 D (.dK (putK kvs k z))) else Nx H3)) : tDc wi g tt tk tv vs σ H Q := h
theorem r_dcL {a : Addr} {xs : List V} {D : Addr} {Qd : Hp → Prop} (Pv : Nat → Hp → Prop) (h0 : Pv 0 (upd H D (.dK []))) (hl : ∀ i H, i ≤ xs.length → Pv i H → SqL K H a xs)
    (hs : ∀ i x H, xs[i]? = some x → Pv i H → g x (wipe σ vs) H fun σ2 H2 => wipe σ2 vs = wipe σ vs ∧ tt σ2 H2 fun b H3 =>
      if b = true then tk σ2 H3 fun y H4 => tv σ2 H4 fun z H5 => ∃ kvs k, y = kV k ∧ H5 D = some (.dK kvs) ∧ kvs.length < sizeLine ∧ Pv (i + 1) (upd H5 D (.dK (putK kvs k z))) else Pv (i + 1) H3) (hd : ∀ H, Pv xs.length H → Qd H) :
    ∃ W : Nat → Nat → Hp → Prop, (∃ m, W 0 m (upd H D (.dK []))) ∧ ∀ i m H, W i m H →
      ((Itl K a).stop i H ∧ Qd H) ∨ ((Itl K a).go i H ∧ ∃ Nx : Hp → Prop, (∀ H', Nx H' → ∃ m', m' < m ∧ W (i + 1) m' H') ∧ ∀ x H', (Itl K a).yld i H x H' → g x (wipe σ vs) H' fun σ2 H2 => wipe σ2 vs = wipe σ vs ∧ tt σ2 H2 fun b H3 =>
        if b = true then tk σ2 H3 fun y H4 => tv σ2 H4 fun z H5 => ∃ kvs k, y = kV k ∧ H5 D = some (.dK kvs) ∧ kvs.length < sizeLine ∧ Nx (upd H5 D (.dK (putK kvs k z))) else Nx H3) := by
  refine ⟨fun i m H => m = xs.length - i ∧ i ≤ xs.length ∧ Pv i H, ⟨xs.length, by simp, Nat.zero_le _, h0⟩, ?_⟩
  rintro i m H ⟨rfl, hi, p⟩
  have q := hl i H hi p
  by_cases hlt : i < xs.length
  · refine .inr ⟨⟨xs, xs[i], q, by simp [hlt]⟩, Pv (i + 1), fun H' p' => ⟨xs.length - (i + 1), by omega, rfl, hlt, p'⟩, fun x H' y => ?_⟩
    obtain ⟨e, y⟩ := y
    subst e
    exact hs i x _ (y xs q) p
  · have e : i = xs.length := by omega
    subst e
    exact .inl ⟨⟨xs, q, Nat.le_refl _⟩, hd H p⟩
end
section
variable {nx : L2.St → Hp → Prop} {rt : VK} {bk ct : L2.St → Hp → Prop} {σ : L2.St} {H : Hp} {g : TG} {t : TS} {td ty : TE} {Q : VK}
theorem r_lock {d : Addr} {kv : List (Key × V)} (hd : H d = some (.dK kv)) (h : ∀ od, t ⟨fun σ' H' => H' d = some (.frz od (.dK kv)) ∧ nx σ' (upd H' d (.dK kv)), fun v H' => H' d = some (.frz od (.dK kv)) ∧ rt v (upd H' d (.dK kv)), fun σ' H' => H' d = some (.frz od (.dK kv)) ∧ bk σ' (upd H' d (.dK kv)), fun σ' H' => H' d = some (.frz od (.dK kv)) ∧ ct σ' (upd H' d (.dK kv))⟩ σ (upd H d (.frz od (.dK kv)))) :
    tLock t ⟨nx, rt, bk, ct⟩ σ H := ⟨d, _, hd, trivial, h⟩
theorem r_iVals {R : It → Hp → Prop} (h : td σ H fun x H1 => ∃ d o kvs, x = .ref d ∧ H1 d = some (.frz o (.dK kvs)) ∧ R (Itd d o kvs) H1) : iVals td σ H R := h
theorem r_dnotin (h : ty σ H fun y H1 => td σ H1 fun x H2 => ∃ a o, x = .ref a ∧ DGet H2 a y o ∧ Q (.bl (!o.isSome)) H2) : tDNotIn ty td σ H Q := h
theorem r_din (h : ty σ H fun y H1 => td σ H1 fun x H2 => ∃ a o, x = .ref a ∧ DGet H2 a y o ∧ Q (.bl o.isSome) H2) : tDIn ty td σ H Q := h
theorem r_loopD {d : Addr} {o : Obj} {kv : List (Key × V)} (Pv : Nat → L2.St → Hp → Prop) (h0 : Pv 0 σ H) (hl : ∀ i σ H, i ≤ kv.length → Pv i σ H → H d = some (.frz o (.dK kv)))
    (hs : ∀ (i : Nat) (k : Key) (x : V) (σ : L2.St) (H : Hp), kv[i]? = some (k, x) → Pv i σ H → g x σ H fun σ2 H2 => t ⟨Pv (i + 1), rt, nx, Pv (i + 1)⟩ σ2 H2) (hd : ∀ σ H, Pv kv.length σ H → nx σ H) :
    ∃ W : Nat → Nat → L2.St → Hp → Prop, (∃ m, W 0 m σ H) ∧ ∀ i m σ H, W i m σ H →
      ((Itd d o kv).stop i H ∧ nx σ H) ∨ ((Itd d o kv).go i H ∧ ∃ N : L2.St → Hp → Prop, (∀ σ' H', N σ' H' → ∃ m', m' < m ∧ W (i + 1) m' σ' H') ∧ ∀ x H', (Itd d o kv).yld i H x H' → g x σ H' fun σ2 H2 => t ⟨N, rt, nx, N⟩ σ2 H2) :=
  for_it (D := ⟨nx, rt, nx, nx⟩) walk_values Pv h0 hl (fun i x σ H H' _ p y => by
    obtain ⟨rfl, k, hk⟩ := y
    exact hs i k x σ _ hk p) hd
/-- a dict that was locked stands as before -/
theorem ext_unlock {d : Addr} {u : HO} {H1 : Hp} (hd : H d = some u) (e : Ext [d] H H1) : Ext [] H (upd H1 d u) := fun b o hb _ => by
  by_cases q : d = b
  · subst q
    rw [hd] at hb
    rw [upd_same]
    exact hb
  · rw [upd_ne (Ne.symm q)]
    exact e b o hb fun z => q (List.mem_singleton.mp z).symm
end
section
variable {K : PySem.W.Frag} {H : Hp} {Q : VK} {σ : L2.St} {td : TE} {te : TE} {g : TG} {tt : TT} {vs : List Nat}
theorem r_lockE {t : TE} {d : Addr} {kv : List (Key × V)} (hd : H d = some (.dK kv)) (h : ∀ od, t σ (upd H d (.frz od (.dK kv))) fun v H' => H' d = some (.frz od (.dK kv)) ∧ Q v (upd H' d (.dK kv))) : tLockE t σ H Q := ⟨d, _, hd, trivial, h⟩
theorem r_iItems {R : It → Hp → Prop} (h : td σ H fun x H1 => ∃ d o kvs, x = .ref d ∧ H1 d = some (.frz o (.dK kvs)) ∧ R (Iti d o kvs) H1) : iItems td σ H R := h
theorem r_lcI {d : Addr} {o : Obj} {kv : List (Key × V)} {D : Addr} {Qd : Hp → Prop} (Pv : Nat → Hp → Prop) (h0 : Pv 0 (upd H D (.lst []))) (hl : ∀ i H, i ≤ kv.length → Pv i H → H d = some (.frz o (.dK kv)))
    (hs : ∀ (i : Nat) (k : Key) (x : V) (T : Addr) (H : Hp), kv[i]? = some (k, x) → Pv i H → H T = none → g (.ref T) (wipe σ vs) (upd H T (.tup [kV k, x])) fun σ2 H2 => wipe σ2 vs = wipe σ vs ∧ tt σ2 H2 fun b H3 =>
      if b = true then te σ2 H3 fun y H4 => ∃ acc, H4 D = some (.lst acc) ∧ acc.length < sizeLine ∧ Pv (i + 1) (upd H4 D (.lst (acc ++ [y]))) else Pv (i + 1) H3) (hd : ∀ H, Pv kv.length H → Qd H) :
    ∃ W : Nat → Nat → Hp → Prop, (∃ m, W 0 m (upd H D (.lst []))) ∧ ∀ i m H, W i m H →
      ((Iti d o kv).stop i H ∧ Qd H) ∨ ((Iti d o kv).go i H ∧ ∃ Nx : Hp → Prop, (∀ H', Nx H' → ∃ m', m' < m ∧ W (i + 1) m' H') ∧ ∀ x H', (Iti d o kv).yld i H x H' → g x (wipe σ vs) H' fun σ2 H2 => wipe σ2 vs = wipe σ vs ∧ tt σ2 H2 fun b H3 =>
        if b = true then te σ2 H3 fun y H4 => ∃ acc, H4 D = some (.lst acc) ∧ acc.length < sizeLine ∧ Nx (upd H4 D (.lst (acc ++ [y]))) else Nx H3) :=
  lc_it walk_items Pv h0 hl (fun i x H H' hi p y => by
    obtain ⟨T, a, b, rfl, hT, rfl, ha, hb⟩ := y
    dsimp only at ha hb
    rw [List.getElem?_eq_getElem hi] at ha hb
    obtain rfl := Option.some.inj ha
    obtain rfl := Option.some.inj hb
    exact hs i kv[i].1 kv[i].2 T H (List.getElem?_eq_getElem hi) p hT) hd
end
section
variable {K : PySem.W.Frag} {nx : L2.St → Hp → Prop} {rt : VK} {σ : L2.St} {H : Hp} {g : TG} {tt : TT} {tk tv : TE} {t : TS} {vs : List Nat}
theorem r_dcK {d : Addr} {o : Obj} {kv : List (Key × V)} {D : Addr} {Qd : Hp → Prop} (Pv : Nat → Hp → Prop) (h0 : Pv 0 (upd H D (.dK []))) (hl : ∀ i H, i ≤ kv.length → Pv i H → H d = some (.frz o (.dK kv)))
    (hs : ∀ (i : Nat) (k : Key) (x : V) (H : Hp), kv[i]? = some (k, x) → Pv i H → g (kV k) (wipe σ vs) H fun σ2 H2 => wipe σ2 vs = wipe σ vs ∧ tt σ2 H2 fun b H3 =>
      if b = true then tk σ2 H3 fun y H4 => tv σ2 H4 fun z H5 => ∃ kvs k, y = kV k ∧ H5 D = some (.dK kvs) ∧ kvs.length < sizeLine ∧ Pv (i + 1) (upd H5 D (.dK (putK kvs k z))) else Pv (i + 1) H3) (hd : ∀ H, Pv kv.length H → Qd H) :
    ∃ W : Nat → Nat → Hp → Prop, (∃ m, W 0 m (upd H D (.dK []))) ∧ ∀ i m H, W i m H →
      ((Itk d o kv).stop i H ∧ Qd H) ∨ ((Itk d o kv).go i H ∧ ∃ Nx : Hp → Prop, (∀ H', Nx H' → ∃ m', m' < m ∧ W (i + 1) m' H') ∧ ∀ x H', (Itk d o kv).yld i H x H' → g x (wipe σ vs) H' fun σ2 H2 => wipe σ2 vs = wipe σ vs ∧ tt σ2 H2 fun b H3 =>
        if b = true then tk σ2 H3 fun y H4 => tv σ2 H4 fun z H5 => ∃ kvs k, y = kV k ∧ H5 D = some (.dK kvs) ∧ kvs.length < sizeLine ∧ Nx (upd H5 D (.dK (putK kvs k z))) else Nx H3) := by
  refine ⟨fun i m H => m = kv.length - i ∧ i ≤ kv.length ∧ Pv i H, ⟨kv.length, by simp, Nat.zero_le _, h0⟩, ?_⟩
  rintro i m H ⟨rfl, hi, p⟩
  have q := hl i H hi p
  by_cases hlt : i < kv.length
  · refine .inr ⟨⟨q, hlt⟩, Pv (i + 1), fun H' p' => ⟨kv.length - (i + 1), by omega, rfl, hlt, p'⟩, fun x H' y => ?_⟩
    obtain ⟨rfl, k, v, hk, rfl⟩ := y
    exact hs i k v _ hk p
  · have e : i = kv.length := by omega
    subst e
    exact .inl ⟨⟨q, Nat.le_refl _⟩, hd H p⟩
theorem r_loopI {d : Addr} {o : Obj} {kv : List (Key × V)} (Pv : Nat → L2.St → Hp → Prop) (h0 : Pv 0 σ H) (hl : ∀ i σ H, i ≤ kv.length → Pv i σ H → H d = some (.frz o (.dK kv)))
    (hs : ∀ (i : Nat) (k : Key) (x : V) (T : Addr) (σ : L2.St) (H : Hp), kv[i]? = some (k, x) → Pv i σ H → H T = none → g (.ref T) σ (upd H T (.tup [kV k, x])) fun σ2 H2 => t ⟨Pv (i + 1), rt, nx, Pv (i + 1)⟩ σ2 H2) (hd : ∀ σ H, Pv kv.length σ H → nx σ H) :
    ∃ W : Nat → Nat → L2.St → Hp → Prop, (∃ m, W 0 m σ H) ∧ ∀ i m σ H, W i m σ H →
      ((Iti d o kv).stop i H ∧ nx σ H) ∨ ((Iti d o kv).go i H ∧ ∃ N : L2.St → Hp → Prop, (∀ σ' H', N σ' H' → ∃ m', m' < m ∧ W (i + 1) m' σ' H') ∧ ∀ x H', (Iti d o kv).yld i H x H' → g x σ H' fun σ2 H2 => t ⟨N, rt, nx, N⟩ σ2 H2) := by
  refine ⟨fun i m σ H => m = kv.length - i ∧ i ≤ kv.length ∧ Pv i σ H, ⟨kv.length, by simp, Nat.zero_le _, h0⟩, ?_⟩
  rintro i m σ H ⟨rfl, hi, p⟩
  have q := hl i σ H hi p
  by_cases hlt : i < kv.length
  · refine .inr ⟨⟨q, hlt⟩, Pv (i + 1), fun σ' H' p' => ⟨kv.length - (i + 1), by omega, rfl, hlt, p'⟩, fun x H' y => ?_⟩
    obtain ⟨T, k, v, hk, rfl, hT, rfl⟩ := y
    exact hs i k v T σ _ hk p hT
  · have e : i = kv.length := by omega
    subst e
    exact .inl ⟨⟨q, Nat.le_refl _⟩, hd σ H p⟩
end
section
variable {K : PySem.W.Frag} {nx : L2.St → Hp → Prop} {rt : VK} {bk ct : L2.St → Hp → Prop} {σ : L2.St} {H : Hp} {Q : VK} {td ty tv tx : TE}
theorem r_tget1 (h : td σ H fun x H1 => ∃ a, x = .ref a ∧ IsD H1 a ∧ ty σ H1 fun y H2 => ∃ o, DGet H2 a y o ∧ Q (o.getD .non) H2) : tDGet1 td ty σ H Q := h
theorem r_tget2 (h : td σ H fun x H1 => ∃ a, x = .ref a ∧ IsD H1 a ∧ ty σ H1 fun y H2 => tx σ H2 fun z H3 => ∃ o, DGet H3 a y o ∧ Q (o.getD z) H3) : tDGet2 td ty tx σ H Q := h
theorem r_prp2 {C a dx : Addr} {fs : List (Str × V)} {R : Addr → Prop} (h1 : H a = some (.ins C dx fs)) (h : R a) : ∃ a' dx' fs', V.ref a = .ref a' ∧ H a' = some (.ins C dx' fs') ∧ R a' := ⟨a, dx, fs, rfl, h1, h⟩
theorem r_dnT (h : ∀ p, H p = none → Q (.ref p) (upd H p (.dT []))) : tDNewT σ H Q := h
theorem r_dput (h : tv σ H fun v H1 => td σ H1 fun x H2 => ty σ H2 fun y H3 => ∃ a H4, x = .ref a ∧ DPut H3 a y v H4 ∧ nx σ H4) : sDPut td ty tv ⟨nx, rt, bk, ct⟩ σ H := h
end
theorem upd_over {H : Hp} {a d : Addr} {x y z : HO} (h : d ≠ a) : upd (upd (upd H a x) d y) a z = upd (upd H d y) a z := by
  funext b
  by_cases q : b = a
  · subst q; rw [upd_same, upd_same]
  · by_cases p : b = d
    · subst p; rw [upd_ne q, upd_same, upd_ne q, upd_same]
    · rw [upd_ne q, upd_ne p, upd_ne q, upd_ne q, upd_ne p]
section
variable {K : PySem.W.Frag} {nx : L2.St → Hp → Prop} {rt : VK} {bk ct : L2.St → Hp → Prop} {σ : L2.St} {H : Hp} {Q : VK} {g : TG} {tt : TT} {tk tv te td : TE} {vs : List Nat} {ta : TA}
theorem r_dcI {d : Addr} {o : Obj} {kv : List (Key × V)} {D : Addr} {Qd : Hp → Prop} (Pv : Nat → Hp → Prop) (h0 : Pv 0 (upd H D (.dK []))) (hl : ∀ i H, i ≤ kv.length → Pv i H → H d = some (.frz o (.dK kv)))
    (hs : ∀ (i : Nat) (k : Key) (x : V) (T : Addr) (H : Hp), kv[i]? = some (k, x) → Pv i H → H T = none → g (.ref T) (wipe σ vs) (upd H T (.tup [kV k, x])) fun σ2 H2 => wipe σ2 vs = wipe σ vs ∧ tt σ2 H2 fun b H3 =>
      if b = true then tk σ2 H3 fun y H4 => tv σ2 H4 fun z H5 => ∃ kvs k, y = kV k ∧ H5 D = some (.dK kvs) ∧ kvs.length < sizeLine ∧ Pv (i + 1) (upd H5 D (.dK (putK kvs k z))) else Pv (i + 1) H3) (hd : ∀ H, Pv kv.length H → Qd H) :
    ∃ W : Nat → Nat → Hp → Prop, (∃ m, W 0 m (upd H D (.dK []))) ∧ ∀ i m H, W i m H →
      ((Iti d o kv).stop i H ∧ Qd H) ∨ ((Iti d o kv).go i H ∧ ∃ Nx : Hp → Prop, (∀ H', Nx H' → ∃ m', m' < m ∧ W (i + 1) m' H') ∧ ∀ x H', (Iti d o kv).yld i H x H' → g x (wipe σ vs) H' fun σ2 H2 => wipe σ2 vs = wipe σ vs ∧ tt σ2 H2 fun b H3 =>
        if b = true then tk σ2 H3 fun y H4 => tv σ2 H4 fun z H5 => ∃ kvs k, y = kV k ∧ H5 D = some (.dK kvs) ∧ kvs.length < sizeLine ∧ Nx (upd H5 D (.dK (putK kvs k z))) else Nx H3) := by
  refine ⟨fun i m H => m = kv.length - i ∧ i ≤ kv.length ∧ Pv i H, ⟨kv.length, by simp, Nat.zero_le _, h0⟩, ?_⟩
  rintro i m H ⟨rfl, hi, p⟩
  have q := hl i H hi p
  by_cases hlt : i < kv.length
  · refine .inr ⟨⟨q, hlt⟩, Pv (i + 1), fun H' p' => ⟨kv.length - (i + 1), by omega, rfl, hlt, p'⟩, fun x H' y => ?_⟩
    obtain ⟨T, k, v, hk, rfl, hT, rfl⟩ := y
    exact hs i k v T _ hk p hT
  · have e : i = kv.length := by omega
    subst e
    exact .inl ⟨⟨q, Nat.le_refl _⟩, hd H p⟩
theorem r_lcK {d : Addr} {o : Obj} {kv : List (Key × V)} {D : Addr} {Qd : Hp → Prop} (Pv : Nat → Hp → Prop) (h0 : Pv 0 (upd H D (.lst []))) (hl : ∀ i H, i ≤ kv.length → Pv i H → H d = some (.frz o (.dK kv)))
    (hs : ∀ (i : Nat) (k : Key) (x : V) (H : Hp), kv[i]? = some (k, x) → Pv i H → g (kV k) (wipe σ vs) H fun σ2 H2 => wipe σ2 vs = wipe σ vs ∧ tt σ2 H2 fun b H3 =>
      if b = true then te σ2 H3 fun y H4 => ∃ acc, H4 D = some (.lst acc) ∧ acc.length < sizeLine ∧ Pv (i + 1) (upd H4 D (.lst (acc ++ [y]))) else Pv (i + 1) H3) (hd : ∀ H, Pv kv.length H → Qd H) :
    ∃ W : Nat → Nat → Hp → Prop, (∃ m, W 0 m (upd H D (.lst []))) ∧ ∀ i m H, W i m H →
      ((Itk d o kv).stop i H ∧ Qd H) ∨ ((Itk d o kv).go i H ∧ ∃ Nx : Hp → Prop, (∀ H', Nx H' → ∃ m', m' < m ∧ W (i + 1) m' H') ∧ ∀ x H', (Itk d o kv).yld i H x H' → g x (wipe σ vs) H' fun σ2 H2 => wipe σ2 vs = wipe σ vs ∧ tt σ2 H2 fun b H3 =>
        if b = true then te σ2 H3 fun y H4 => ∃ acc, H4 D = some (.lst acc) ∧ acc.length < sizeLine ∧ Nx (upd H4 D (.lst (acc ++ [y]))) else Nx H3) := by
  refine ⟨fun i m H => m = kv.length - i ∧ i ≤ kv.length ∧ Pv i H, ⟨kv.length, by simp, Nat.zero_le _, h0⟩, ?_⟩
  rintro i m H ⟨rfl, hi, p⟩
  have q := hl i H hi p
  by_cases hlt : i < kv.length
  · refine .inr ⟨⟨q, hlt⟩, Pv (i + 1), fun H' p' => ⟨kv.length - (i + 1), by omega, rfl, hlt, p'⟩, fun x H' y => ?_⟩
    obtain ⟨rfl, k, v, hk, rfl⟩ := y
    exact hs i k v _ hk p
  · have e : i = kv.length := by omega
    subst e
    exact .inl ⟨⟨q, Nat.le_refl _⟩, hd H p⟩
theorem r_iKeys {R : It → Hp → Prop} {d : Addr} {o : Obj} {kvs : List (Key × V)} (hd : H d = some (.frz o (.dK kvs))) (h : R (Itk d o kvs) H) : ∃ d' o', V.ref d = .ref d' ∧ ((∃ kvs, H d' = some (.frz o' (.dK kvs)) ∧ R (Itk d' o' kvs) H) ∨ ∃ kvs, H d' = some (.frz o' (.dT kvs)) ∧ R (Itkt d' o' kvs) H) := ⟨d, o, rfl, .inl ⟨kvs, hd, h⟩⟩
theorem r_iKeysT {R : It → Hp → Prop} (h : td σ H fun x H1 => ∃ d o, x = .ref d ∧ ((∃ kvs, H1 d = some (.frz o (.dK kvs)) ∧ R (Itk d o kvs) H1) ∨ ∃ kvs, H1 d = some (.frz o (.dT kvs)) ∧ R (Itkt d o kvs) H1)) : iKeys td σ H R := h
theorem r_disp1 (h : ∀ p, H p = none → tk σ (upd H p (.dK [])) fun x H1 => tv σ H1 fun y H2 => H2 p = some (.dK []) ∧ ∃ kvs : List (Key × V), [(x, y)] = kvs.map (fun kv => (kV kv.1, kv.2)) ∧ kvs.length ≤ 15 ∧ Q (.ref p) (upd H2 p (.dK (mergeK [] kvs)))) : tDisp [(tk, tv)] σ H Q := h
theorem r_dnK (h : ∀ p, H p = none → Q (.ref p) (upd H p (.dK []))) : tDNewK σ H Q := h
theorem r_par3 {i j l : Nat} (h : ta σ H fun vs H1 => ∃ u v w, vs = [u, v, w] ∧ nx (((σ.set i (some u)).set j (some v)).set l (some w)) H1) : tPar3 i j l ta ⟨nx, rt, bk, ct⟩ σ H := h
theorem r_par3e {u v w : V} {R : V → V → V → Prop} (h : R u v w) : ∃ u' v' w', [u, v, w] = [u', v', w'] ∧ R u' v' w' := ⟨u, v, w, rfl, h⟩
theorem r_dict {p : Addr} {kvs : List (Key × V)} (h1 : H p = some (.dK kvs)) (h : ∀ l, H l = none → Q (.ref l) (upd H l (.dK kvs))) : ∃ (a : Addr) (kvs : List (Key × V)), [V.ref p] = [V.ref a] ∧ Rd H a (.dK kvs) ∧ ∀ p, H p = none → Q (.ref p) (upd H p (.dK kvs)) := ⟨p, kvs, rfl, .inl h1, h⟩
end
end Yk

set_option maxHeartbeats 2000000
namespace Yk
open PySem PySem.Spec PyProof.Rows L2

/-! The law's own helpers from k28 on: the bag, the draws. -/
theorem seed_sq {seed : Int} (h0 : 0 ≤ seed) (h1 : seed < 2147483629) : CMulW seed seed := cmul (m := 32) (n := 32) (by omega) (by omega) (by decide) (by decide) (by decide)
section
variable {P : Program} {w : World} {K : PySem.W.Frag} {mg : Str → Option Value} {base : Heap} {f : Addr} {fd : FuncData}
abbrev s_law_bag : Stmt := top 52
theorem c_law_bag : FnScope ["_law_script", "_law_seed", "_law_cell"] ["_law_script"] (defScope s_law_bag) := ⟨rfl, rfl, rfl, by decide +kernel, rfl, by decide +kernel, by decide +kernel⟩
theorem f_law_bag (F : FunD K "_law_bag" "_law_bag" (defArgs s_law_bag) (defBody s_law_bag) (defScope s_law_bag) [] [] f fd) (hm : mg "_law_bag" = some (.ref f)) (T : Bt mg) : Fn P w K mg base 1 "_law_bag" (spBag K) := by
  refine fn_def F hm c_law_bag (fun vs H Q E h => ?_) (fun _ _ _ _ _ _ us hl => match us, hl with | [_], _ => rfl) (fun cdv A outer s H vs Q E hr h => ?_)
  · obtain ⟨a, ns, rfl, _⟩ := h
    rfl
  · obtain ⟨a, ns, rfl, ha, hns, k⟩ := h
    have nd := c_law_bag.nd
    refine ⟨_, (pss_cons (ps_set (i := 1) nd rfl (by first | exact Or.inl rfl | exact Or.inr rfl) pe_int)
      (pss_cons (ps_for PassesOwn.never rfl (pi_list (pe_slice sl_list (pv 0) po_none (po_some pe_int))) (pg_name (i := 2) nd rfl (by first | exact Or.inl rfl | exact Or.inr rfl))
        (pss_one (ps_set (i := 1) nd rfl (by first | exact Or.inl rfl | exact Or.inr rfl) (pe_op op_mod (pe_callTy call_int1 (by rfl) T.int (by decide +kernel) (pa_cons (pe_op op_add (pe_op op_add (pe_op op_mul (pv 1) pe_int) (pe_op op_mod (pe_callTy call_int1 (by rfl) T.int (by decide +kernel) (pa_cons (pv 2) pa_nil)) pe_int)) pe_int) pa_nil)) pe_int))))
      (pss_one (ps_ret (pe_lst (pa_cons (pe_callTy cr_list (by rfl) T.list (by decide +kernel) (pa_cons (pe_slice sl_list (pv 0) po_none (po_some pe_int)) pa_nil)) (pa_cons pe_int (pa_cons pe_int (pa_cons (pv 1) (pa_cons pe_int pa_nil)))))))))), ?_⟩
    show (_ : TS) _ [some _, none, none] _
    try dsimp only [cxOf, Cx.nox]
    have hc : cutV (ns.map V.int) none (some 63) = ns.map V.int := cut_all (by rw [List.length_map]; exact hns)
    walk_at "go"
    refine r_for ?_
    refine r_iList ?_
    walk_at "go"
    refine r_slList ha fun p hp => ?_
    rw [hc]
    refine ⟨p, rfl, ⟨_, lstS⟩, r_loopL (xs := ns.map V.int) (fun i σ H1 => H1 = upd H p (.lst (ns.map V.int)) ∧ ∃ seed u, σ = [some (.ref a), some (.int seed), u] ∧ 0 ≤ seed ∧ seed < 2147483629) ⟨rfl, 13965, none, rfl, by decide, by decide⟩ (fun i σ H1 _ h => by rw [h.1]; exact lstS) ?_ ?_⟩
    · rintro i x σ H1 hx ⟨rfl, seed, u, rfl, h0, h1⟩
      obtain ⟨z, rfl⟩ : ∃ z, x = V.int z := by
        rw [List.getElem?_map] at hx
        cases e : ns[i]? with
        | none => rw [e] at hx; cases hx
        | some z => rw [e] at hx; exact ⟨z, (Option.some.inj hx).symm⟩
      walk_at "go"
      have hm := modI (seed * 69621 + z % 2147483629 + 17) (n := 2147483587) (by decide)
      exact ⟨rfl, _, _, rfl, hm.1, by omega⟩
    · rintro σ H1 ⟨rfl, seed, u, rfl, h0, h1⟩
      walk_at "go"
      refine r_slList (lstN ha hp) fun p2 hp2 => ?_
      rw [hc]
      walk_at "go"
      refine r_list (.inl lstS) fun l hl => ?_
      walk_at "go"
      have x3 := ((Ext.refl (S := []) (H := H)).new hp).new hp2 |>.new (o := .lst (ns.map V.int)) hl
      exact k ⟨_, l, ns⟩ _ (x3.free (by assumption)) (x3.new (by assumption)) (bag_ex (pos := 0) upd_same (lstN lstS (by assumption)) hns (Nat.zero_le _) (Int.le_refl _) h0 h1)
abbrev s_law_draw : Stmt := top 53
theorem c_law_draw : FnScope ["_law_bag_here", "_law_many", "_law_cell", "_law_digit", "_law_seed"] ["_law_bag_here", "_law_many"] (defScope s_law_draw) := ⟨rfl, rfl, rfl, by decide +kernel, rfl, by decide +kernel, by decide +kernel⟩
theorem f_law_draw (F : FunD K "_law_draw" "_law_draw" (defArgs s_law_draw) (defBody s_law_draw) (defScope s_law_draw) [] [] f fd) (hm : mg "_law_draw" = some (.ref f)) (T : Bt mg) : Fn P w K mg base 1 "_law_draw" (spDraw K) := by
  refine fn_def F hm c_law_draw (fun vs H Q E h => ?_) (fun _ _ _ _ _ _ us hl => match us, hl with | [_, _], _ => rfl) (fun cdv A outer s H vs Q E hr h => ?_)
  · obtain ⟨b, n, rfl, _⟩ := h
    rfl
  · obtain ⟨⟨b, it, ns⟩, n, rfl, hn, hn2, ⟨l, hb, hi, hns, pos, rest, seed, cnt, rfl, hp, hr0, hs0, hs1⟩, k⟩ := h
    have nd := c_law_draw.nd
    dsimp only at hb hi hns hp k
    refine ⟨_, (pss_cons (ps_asg (pe_op op_add (pe_ix ix_list (pv 0) pe_int (fun _ _ => rfl)) pe_int) (pg_sub (pv 0) pe_int set_list))
      (pss_mid (ps_if (PW.pt (pw_and (pt_cmpR op_eq (pe_ix ix_list (pv 0) pe_int (fun _ _ => rfl)) pe_int (nomark _)) (pw_and1 (pt_cmpR op_lt (pe_ix ix_list (pv 0) pe_int (fun _ _ => rfl)) (pe_callB cr_len (by rfl) T.len (by decide +kernel) (pa_cons (pe_ix ix_list (pv 0) pe_int (fun _ _ => rfl)) pa_nil)) (nomark _)))))
        (pss_cons (ps_set (i := 2) nd rfl (by first | exact Or.inl rfl | exact Or.inr rfl) (pe_ix ix_list (pe_ix ix_list (pv 0) pe_int (fun _ _ => rfl)) (pe_ix ix_list (pv 0) pe_int (fun _ _ => rfl)) (fun _ _ => rfl)))
        (pss_cons (ps_asg (pe_op op_add (pe_ix ix_list (pv 0) pe_int (fun _ _ => rfl)) pe_int) (pg_sub (pv 0) pe_int set_list))
        (pss_one (ps_if (pt_cmpR op_ge (pv 2) (pe_op op_pow pe_int pe_int) (nomark _))
          (pss_one (ps_asg (pv 2) (pg_sub (pv 0) pe_int set_list)))
          (pss_one (ps_asg (pe_op op_mod (pe_callTy call_int1 (by rfl) T.int (by decide +kernel) (pa_cons (pe_op op_add (pe_op op_add (pe_op op_mul (pe_ix ix_list (pv 0) pe_int (fun _ _ => rfl)) pe_int) (pe_op op_mul (pe_op op_mod (pe_callTy call_int1 (by rfl) T.int (by decide +kernel) (pa_cons (pv 2) pa_nil)) pe_int) pe_int)) pe_int) pa_nil)) pe_int) (pg_sub (pv 0) pe_int set_list)))))))
        pss_nil)
      (pss_cons (ps_if (pt_cmpR op_gt (pe_ix ix_list (pv 0) pe_int (fun _ _ => rfl)) pe_int (nomark _))
        (pss_cons (ps_set (i := 3) nd rfl (by first | exact Or.inl rfl | exact Or.inr rfl) (pe_op op_mod (pe_callTy call_int1 (by rfl) T.int (by decide +kernel) (pa_cons (pe_ix ix_list (pv 0) pe_int (fun _ _ => rfl)) pa_nil)) (pv 1)))
        (pss_cons (ps_asg (pe_op op_fdivW (pe_ix ix_list (pv 0) pe_int (fun _ _ => rfl)) (pv 1)) (pg_sub (pv 0) pe_int set_list))
        (pss_one (ps_ret (pv 3)))))
        pss_nil)
      (pss_cons (ps_set (i := 4) nd rfl (by first | exact Or.inl rfl | exact Or.inr rfl) (pe_ix ix_list (pv 0) pe_int (fun _ _ => rfl)))
      (pss_cons (ps_asg (pe_op op_mod (pe_callTy call_int1 (by rfl) T.int (by decide +kernel) (pa_cons (pe_op op_add (pe_op op_add (pe_op op_add (pe_op op_mul (pe_op op_mulW (pv 4) (pv 4)) pe_int) (pe_op op_mul (pv 4) pe_int)) (pe_op op_mul (pe_ix ix_list (pv 0) pe_int (fun _ _ => rfl)) pe_int)) pe_int) pa_nil)) pe_int) (pg_sub (pv 0) pe_int set_list))
      (pss_one (ps_ret (pe_op op_mod (pe_callTy call_int1 (by rfl) T.int (by decide +kernel) (pa_cons (pe_op op_add (pe_op op_fdivW (pe_ix ix_list (pv 0) pe_int (fun _ _ => rfl)) pe_int) (pe_op op_mul (pe_op op_mod (pe_callTy call_int1 (by rfl) T.int (by decide +kernel) (pa_cons (pe_ix ix_list (pv 0) pe_int (fun _ _ => rfl)) pa_nil)) pe_int) pe_int)) pa_nil)) (pv 1))))))))), ?_⟩
    show (_ : TS) _ [some _, some _, none, none, none] _
    try dsimp only [cxOf, Cx.nox]
    have bb : SqL K H b [.ref it, .int (pos : Int), .int rest, .int seed, .int cnt] := .inl (.inl hb)
    walk_at "go"
    refine r_setB (K := K) hb rfl _ rfl (fun H1 hb1 e1 c1 => ?_)
    have bb1 : SqL K H1 b [.ref it, .int (pos : Int), .int rest, .int seed, .int (cnt + 1)] := .inl (.inl hb1)
    have hi1 := c1 _ _ hi (ns_ne _ _ _)
    refine r_mid (fun σ H2 => ∃ (u : Option V) (pos' : Nat) (rest' seed' : Int), σ = [some (.ref b), some (.int n), u, none, none] ∧ H2 b = some (.lst [.ref it, .int (pos' : Int), .int rest', .int seed', .int (cnt + 1)]) ∧ SqL K H2 it (ns.map V.int) ∧ Ext [b] H H2 ∧ pos' ≤ ns.length ∧ 0 ≤ rest' ∧ 0 ≤ seed' ∧ seed' < 2147483629) ?_ ?_
    · walk_at "go"
      refine r_dec (fun hrest => ?_) (fun hrest => ?_)
      · walk_at "go"
        refine r_dec (fun hpos => ?_) (fun hpos => ?_)
        · have hpn : pos < ns.length := by rw [List.length_map] at hpos; omega
          walk_at "go"
          refine r_ixL hi1 (at_map hpn) ?_
          walk_at "go"
          refine r_setB (K := K) hb1 rfl _ rfl (fun H2 hb2 e2 c2 => ?_)
          have bb2 : SqL K H2 b [.ref it, .int ((pos : Int) + 1), .int rest, .int seed, .int (cnt + 1)] := .inl (.inl hb2)
          have hi2 := c2 _ _ hi1 (ns_ne _ _ _)
          walk_at "go"
          refine r_dec (fun hge => ?_) (fun hge => ?_)
          · walk_at "go"
            refine r_setB (K := K) hb2 rfl _ rfl (fun H3 hb3 e3 c3 => ?_)
            exact ⟨_, pos + 1, ns[pos], seed, rfl, by rw [Int.natCast_add]; exact hb3, c3 _ _ hi2 (ns_ne _ _ _), (e1.trans e2).trans e3, hpn, Int.le_trans (by decide) hge, hs0, hs1⟩
          · walk_at "go"
            refine r_setB (K := K) hb2 rfl _ rfl (fun H3 hb3 e3 c3 => ?_)
            have hm := modI (seed * 39373 + ns[pos] % 2147483549 * 24571 + 59) (n := 2147483579) (by decide)
            exact ⟨_, pos + 1, rest, _, rfl, by rw [Int.natCast_add]; exact hb3, c3 _ _ hi2 (ns_ne _ _ _), (e1.trans e2).trans e3, hpn, hr0, hm.1, by omega⟩
        · walk_at "go"
          exact ⟨_, pos, rest, seed, rfl, hb1, hi1, e1, hp, hr0, hs0, hs1⟩
      · walk_at "go"
        exact ⟨_, pos, rest, seed, rfl, hb1, hi1, e1, hp, hr0, hs0, hs1⟩
    · rintro σ H2 ⟨u, pos', rest', seed', rfl, hb2, hi2, e2, hp2, hr2, hs2, hs3⟩
      have bb2 : SqL K H2 b [.ref it, .int (pos' : Int), .int rest', .int seed', .int (cnt + 1)] := .inl (.inl hb2)
      walk_at "go"
      refine r_dec (fun hpos => ?_) (fun hpos => ?_)
      · have d1 : CDivW rest' n := wide_div hn (b := 400) (by omega) (by decide) (by decide)
        walk_at "go"
        refine r_setB (K := K) hb2 rfl _ rfl (fun H3 hb3 e3 c3 => ?_)
        walk_at "go"
        have hm := modI rest' hn
        exact k _ H3 hm.1 hm.2 (bag_ex hb3 (c3 _ _ hi2 (ns_ne _ _ _)) hns hp2 (Int.ediv_nonneg hr2 (by omega)) hs2 hs3) (e2.trans e3)
      · have c4 := seed_sq hs2 hs3
        walk_at "go"
        refine r_setB (K := K) hb2 rfl _ rfl (fun H3 hb3 e3 c3 => ?_)
        have hm := modI (seed' * seed' * 29 + seed' * 48673 + (cnt + 1) * 1500007 + 70001) (n := 2147483579) (by decide)
        have bb3 : SqL K H3 b [.ref it, .int (pos' : Int), .int rest', .int ((seed' * seed' * 29 + seed' * 48673 + (cnt + 1) * 1500007 + 70001) % 2147483579), .int (cnt + 1)] := .inl (.inl hb3)
        walk_at "go"
        have hm2 := modI ((seed' * seed' * 29 + seed' * 48673 + (cnt + 1) * 1500007 + 70001) % 2147483579 / 101 + (seed' * seed' * 29 + seed' * 48673 + (cnt + 1) * 1500007 + 70001) % 2147483579 % 6007 * 83) hn
        exact k _ H3 hm2.1 hm2.2 (bag_ex hb3 (c3 _ _ hi2 (ns_ne _ _ _)) hns hp2 hr2 hm.1 (by omega)) (e2.trans e3)
abbrev s_law_mixed : Stmt := top 55
theorem c_law_mixed : FnScope ["_law_bag_here", "_law_things", "_law_found", "_law_thing"] ["_law_bag_here", "_law_things"] (defScope s_law_mixed) := ⟨rfl, rfl, rfl, by decide +kernel, rfl, by decide +kernel, by decide +kernel⟩
theorem f_law_mixed (F : FunD K "_law_mixed" "_law_mixed" (defArgs s_law_mixed) (defBody s_law_mixed) (defScope s_law_mixed) [] [] f fd) (hm : mg "_law_mixed" = some (.ref f)) (T : Bt mg) (F_law_draw : Fn P w K mg base 1 "_law_draw" (spDraw K)) : Fn P w K mg base 2 "_law_mixed" (spMixed K) := by
  refine fn_def F hm c_law_mixed (fun vs H Q E h => ?_) (fun _ _ _ _ _ _ us hl => match us, hl with | [_, _], _ => rfl) (fun cdv A outer s H vs Q E hr h => ?_)
  · obtain ⟨b, l, xs, rfl, _⟩ := h
    rfl
  · obtain ⟨b, l, xs, rfl, hb, hl, hne, h4, k⟩ := h
    have nd := c_law_mixed.nd
    refine ⟨_, (pss_cons (ps_set (i := 2) nd rfl (by first | exact Or.inl rfl | exact Or.inr rfl) (pe_lst pa_nil))
      (pss_cons (ps_for PassesOwn.never rfl (pi_list (pv 1)) (pg_name (i := 3) nd rfl (by first | exact Or.inl rfl | exact Or.inr rfl))
        (pss_one (ps_expr (pe_bm PySem.F.plainAttrs_list PySem.F.slot_list_insert PySem.F.type_list_insert mt_insert (pv 2) (pa_cons (pe_fn F_law_draw (hr.mono (by decide)) (pa_cons (pv 0) (pa_cons (pe_op op_add (pe_callB cr_len (by rfl) T.len (by decide +kernel) (pa_cons (pv 2) pa_nil)) pe_int) pa_nil))) (pa_cons (pv 3) pa_nil))))))
      (pss_one (ps_ret (pv 2))))), ?_⟩
    show (_ : TS) _ [some _, some _, none, none] _
    try dsimp only [cxOf, Cx.nox]
    walk_at "go"
    rename_i p hp
    have nbp : p ≠ b.a := fun z => hb.ne hp z.symm
    refine r_for ?_
    refine r_iList ?_
    walk_at "go"
    refine ⟨l, rfl, ⟨_, lstN hl hp⟩, r_loopL (xs := xs) (fun i σ H1 => ∃ (ys : List V) (u : Option V), σ = [some (.ref b.a), some (.ref l), some (.ref p), u] ∧ H1 p = some (.lst ys) ∧ ys.Perm (xs.take i) ∧ BagAt K H1 b ∧ Ext [b.a] H H1) ⟨[], none, rfl, upd_same, by simp, hb.new hp, Ext.refl.new hp⟩ (fun i σ H1 _ h => ?_) ?_ ?_⟩
    · obtain ⟨ys, u, _, _, _, _, e1⟩ := h
      exact lstX e1 hl (by simpa using fun z => hne z.symm)
    · rintro i x σ H1 hx ⟨ys, u, rfl, hys, hperm, hb1, e1⟩
      have hi : i < xs.length := (List.getElem?_eq_some_iff.mp hx).1
      have hyl : ys.length = i := by rw [hperm.length_eq, List.length_take]; omega
      walk_at "go"
      refine ⟨.inl ⟨rfl, _, .inl (.inl hys)⟩, ?_⟩
      walk_at "go"
      refine r_len (.inl (.inl (.inl hys))) ?_
      walk_at "go"
      refine ⟨b, _, rfl, by omega, Int.lt_of_le_of_lt (by omega : (ys.length : Int) + 1 ≤ 4001) (by decide), hb1, fun z H2 z0 z1 hb2 e2 => ?_⟩
      walk_at "go"
      have hp2 : H2 p = some (.lst ys) := e2 _ _ hys (by simpa using nbp)
      refine ⟨p, ys, z, x, rfl, rfl, hp2, Nat.lt_of_le_of_lt (by omega : ys.length ≤ 4000) (by decide), z0, Int.lt_of_lt_of_le z1 (by omega), ?_⟩
      walk_at "go"
      refine ⟨_, _, rfl, upd_same, ?_, hb.own hp hb2, (e1.trans e2).own hp⟩
      rw [List.take_add_one, hx]
      show (ys.take z.toNat ++ [x] ++ ys.drop z.toNat).Perm (xs.take i ++ [x])
      rw [List.append_assoc]
      refine (List.perm_middle (a := x) (l₁ := ys.take z.toNat) (l₂ := ys.drop z.toNat)).trans ?_
      rw [List.take_append_drop]
      exact (List.perm_append_comm (l₁ := [x]) (l₂ := ys)).trans (hperm.append_right [x])
    · rintro σ H1 ⟨ys, u, rfl, hys, hperm, hb1, e1⟩
      rw [List.take_length] at hperm
      walk_at "go"
      exact k p ys H1 hperm hp hys hb1 e1
end
end Yk

set_option maxHeartbeats 2000000
namespace Yk
open PySem PySem.Spec PyProof.Rows L2

/-! The law's own arithmetic from k28 on. -/
def spLess (K : PySem.W.Frag) : Sp := fun vs H Q _ => ∃ v1 v2 p q, vs = [v1, v2] ∧ Am K H v1 p ∧ Am K H v2 q ∧ Sz 4000 p ∧ Sz 4000 q ∧ Q (.bl (decide (p < q))) H
def restQ (p q : Rat) : Rat := if p ≤ q then 0 else p - q
section
variable {P : Program} {w : World} {K : PySem.W.Frag} {mg : Str → Option Value} {base : Heap} {f : Addr} {fd : FuncData}
abbrev s_law_amount : Stmt := top 56
theorem c_law_amount : FnScope ["_law_top", "_law_bottom", "_law_one", "_law_two"] ["_law_top", "_law_bottom"] (defScope s_law_amount) := ⟨rfl, rfl, rfl, by decide +kernel, rfl, by decide +kernel, by decide +kernel⟩
theorem f_law_amount (F : FunD K "_law_amount" "_law_amount" (defArgs s_law_amount) (defBody s_law_amount) (defScope s_law_amount) [] [] f fd) (hm : mg "_law_amount" = some (.ref f)) (T : Bt mg) : Fn P w K mg base 1 "_law_amount" (spPair K) := by
  refine fn_def F hm c_law_amount (fun vs H Q E h => ?_) (fun _ _ _ _ _ _ us hl => match us, hl with | [_, _], _ => rfl) (fun cdv A outer s H vs Q E hr h => ?_)
  · obtain ⟨a, b, rfl, _⟩ := h
    rfl
  · obtain ⟨a, b, rfl, hb, la, lb, k⟩ := h
    have nd := c_law_amount.nd
    refine ⟨_, (pss_cons (ps_par (i := 2) (j := 3) (by rfl) nd rfl rfl (by decide) rfl rfl (pa_cons (pv 0) (pa_cons (pv 1) pa_nil)) (by rfl))
      (pss_cons (ps_while PassesOwn.never (pt_cmpR op_gt (pv 3) pe_int (nomark _))
        (pss_one (ps_par (i := 2) (j := 3) (by rfl) nd rfl rfl (by decide) rfl rfl (pa_cons (pv 3) (pa_cons (pe_op op_mod (pe_callTy call_int1 (by rfl) T.int (by decide +kernel) (pa_cons (pv 2) pa_nil)) (pv 3)) pa_nil)) (by rfl))))
      (pss_one (ps_ret (pe_tup (pa_cons (pe_op op_fdivW (pv 0) (pv 2)) (pa_cons (pe_op op_fdivW (pv 1) (pv 2)) pa_nil))))))), ?_⟩
    show (_ : TS) _ [some _, some _, none, none] _
    try dsimp only [cxOf, Cx.nox]
    walk_at "go"
    refine r_while (fun m σ H1 => H1 = H ∧ ∃ x y : Nat, y = m ∧ 0 < x + y ∧ σ = [some (.int (a : Int)), some (.int (b : Int)), some (.int (x : Int)), some (.int (y : Int))] ∧ Nat.gcd x y = Nat.gcd a b) b ⟨rfl, a, b, rfl, by omega, rfl, rfl⟩ ?_
    rintro m σ H1 ⟨rfl, x, y, rfl, hxy, rfl, hg⟩
    walk_at "go"
    refine r_dec (fun hy => ?_) (fun hy => ?_)
    · have hy' : 0 < y := by omega
      refine ⟨fun σ H' => H' = H1 ∧ σ = [some (.int (a : Int)), some (.int (b : Int)), some (.int (y : Int)), some (.int ((x % y : Nat) : Int))], ?_, ?_⟩
      · rintro σ' H' ⟨rfl, rfl⟩
        refine ⟨x % y, Nat.mod_lt _ hy', rfl, y, x % y, rfl, by omega, rfl, ?_⟩
        rw [← hg, Nat.gcd_comm x y, Nat.gcd_rec y x, Nat.gcd_comm]
      · walk_at "go"
        exact ⟨rfl, rfl⟩
    · have y0 : y = 0 := by omega
      subst y0
      rw [Nat.gcd_zero_right] at hg
      have hx : 0 < x := by omega
      have lx : x < 2 ^ 8900 := Nat.lt_of_le_of_lt (by rw [hg]; exact Nat.gcd_le_right _ hb) lb
      have d1 : ∀ i : Int, CDivW i (x : Int) := fun i => cdiv hx lx (by decide) (by decide)
      walk_at "go"
      refine r_I (d1 _) ?_
      walk_at "go"
      refine r_I (d1 _) ?_
      walk_at "go"
      refine k _ _ (Ext.refl.new (by assumption)) ⟨_, rfl, ?_⟩
      obtain ⟨x1, x2⟩ := mk_parts a b hb
      rw [x1, x2, ← hg]
      simp only [Int.natCast_ediv]
      exact tupS
abbrev s_law_sum : Stmt := top 57
theorem c_law_sum : FnScope ["_law_one", "_law_two"] ["_law_one", "_law_two"] (defScope s_law_sum) := ⟨rfl, rfl, rfl, by decide +kernel, rfl, by decide +kernel, by decide +kernel⟩
theorem f_law_sum (F : FunD K "_law_sum" "_law_sum" (defArgs s_law_sum) (defBody s_law_sum) (defScope s_law_sum) [] [] f fd) (hm : mg "_law_sum" = some (.ref f)) (F_law_amount : Fn P w K mg base 1 "_law_amount" (spPair K)) : Fn P w K mg base 2 "_law_sum" (sp2 (fun _ _ => True) (· + ·) K) := by
  refine fn_def F hm c_law_sum (fun vs H Q E h => ?_) (fun _ _ _ _ _ _ us hl => match us, hl with | [_, _], _ => rfl) (fun cdv A outer s H vs Q E hr h => ?_)
  · obtain ⟨v1, v2, p, q, rfl, _⟩ := h
    rfl
  · obtain ⟨v1, v2, p, q, rfl, ⟨a1, rfl, h1⟩, ⟨a2, rfl, h2⟩, z1, z2, p0, q0, _, k⟩ := h
    have nd := c_law_sum.nd
    refine ⟨_, (pss_one (ps_ret (pe_fn F_law_amount (hr.mono (by decide)) (pa_cons (pe_op op_add (pe_op op_mulW (pe_ix ix_tup (pv 0) pe_int (fun _ _ => rfl)) (pe_ix ix_tup (pv 1) pe_int (fun _ _ => rfl))) (pe_op op_mulW (pe_ix ix_tup (pv 1) pe_int (fun _ _ => rfl)) (pe_ix ix_tup (pv 0) pe_int (fun _ _ => rfl)))) (pa_cons (pe_op op_mulW (pe_ix ix_tup (pv 0) pe_int (fun _ _ => rfl)) (pe_ix ix_tup (pv 1) pe_int (fun _ _ => rfl))) pa_nil))))), ?_⟩
    show (_ : TS) _ [some _, some _] _
    try dsimp only [cxOf, Cx.nox]
    have m1 : CMulW p.num (q.den : Int) := cmul z1.1 (szd z2) (by decide) (by decide) (by decide)
    have m2 : CMulW q.num (p.den : Int) := cmul z2.1 (szd z1) (by decide) (by decide) (by decide)
    have m3 : CMulW (p.den : Int) (q.den : Int) := cmul (szd z1) (szd z2) (by decide) (by decide) (by decide)
    walk_at "go"
    have e1 := mulz z1.1 (szd z2)
    have e2 := mulz z2.1 (szd z1)
    have e3 : p.den * q.den < 2 ^ (4000 + 4000) := by rw [Nat.pow_add]; exact Nat.mul_lt_mul'' z1.2 z2.2
    have e4 : (2 : Nat) ^ (4000 + 4000) + 2 ^ (4000 + 4000) ≤ 2 ^ 8900 := by decide +kernel
    have n1 : 0 ≤ p.num * (q.den : Int) := Int.mul_nonneg (num_nn p0) (by omega)
    have n2 : 0 ≤ q.num * (p.den : Int) := Int.mul_nonneg (num_nn q0) (by omega)
    refine ⟨(p.num * (q.den : Int) + q.num * (p.den : Int)).toNat, p.den * q.den, ?_, Nat.mul_pos p.den_pos q.den_pos, ?_, by omega, fun v H' e a => k v H' e ?_⟩
    · rw [Int.toNat_of_nonneg (by omega), Int.natCast_mul]
    · generalize (2 : Nat) ^ (4000 + 4000) = B at *
      generalize (2 : Nat) ^ 8900 = C at *
      omega
    · rw [Int.toNat_of_nonneg (by omega), mk_add] at a
      exact a
theorem mk_subH (p q : Rat) : mkRat (p.num * q.den - q.num * p.den) (p.den * q.den) = p - q := by rw [Rat.sub_eq_add_neg, Rat.add_def, Rat.normalize_eq_mkRat, Rat.neg_num, Rat.neg_den, Int.neg_mul, Int.sub_eq_add_neg]
theorem le_cross (p q : Rat) : p ≤ q ↔ p.num * (q.den : Int) - q.num * (p.den : Int) ≤ 0 := by
  have h1 := Rat.lt_iff q p
  have h2 : p ≤ q ↔ ¬ q < p := Rat.not_lt.symm
  rw [h2, h1]
  omega
theorem mk_rest (p q : Rat) : mkRat ((max (p.num * (q.den : Int) - q.num * (p.den : Int)) 0).toNat : Int) (p.den * q.den) = restQ p q := by
  unfold restQ
  by_cases h : p ≤ q
  · have h2 := (le_cross p q).mp h
    rw [if_pos h, Int.max_eq_right h2]
    simp
  · have h2 : ¬ (p.num * (q.den : Int) - q.num * (p.den : Int) ≤ 0) := fun z => h ((le_cross p q).mpr z)
    rw [if_neg h, Int.max_eq_left (by omega), Int.toNat_of_nonneg (by omega), mk_subH]
theorem max_if (a : Int) : (if 0 > a then 0 else a) = max a 0 := by omega
theorem rest_nn (p q : Rat) : 0 ≤ restQ p q := by
  unfold restQ
  split
  · exact Rat.le_refl
  · grind
abbrev s_law_rest : Stmt := top 58
theorem c_law_rest : FnScope ["_law_one", "_law_two"] ["_law_one", "_law_two"] (defScope s_law_rest) := ⟨rfl, rfl, rfl, by decide +kernel, rfl, by decide +kernel, by decide +kernel⟩
theorem f_law_rest (F : FunD K "_law_rest" "_law_rest" (defArgs s_law_rest) (defBody s_law_rest) (defScope s_law_rest) [] [] f fd) (hm : mg "_law_rest" = some (.ref f)) (T : Bt mg) (F_law_amount : Fn P w K mg base 1 "_law_amount" (spPair K)) : Fn P w K mg base 2 "_law_rest" (sp2 (fun _ _ => True) restQ K) := by
  refine fn_def F hm c_law_rest (fun vs H Q E h => ?_) (fun _ _ _ _ _ _ us hl => match us, hl with | [_, _], _ => rfl) (fun cdv A outer s H vs Q E hr h => ?_)
  · obtain ⟨v1, v2, p, q, rfl, _⟩ := h
    rfl
  · obtain ⟨v1, v2, p, q, rfl, ⟨a1, rfl, h1⟩, ⟨a2, rfl, h2⟩, z1, z2, p0, q0, _, k⟩ := h
    have nd := c_law_rest.nd
    refine ⟨_, (pss_one (ps_ret (pe_fn F_law_amount (hr.mono (by decide)) (pa_cons (pe_callB (call_max2 rfl) (by rfl) T.max (by decide +kernel) (pa_cons (pe_op op_sub (pe_op op_mulW (pe_ix ix_tup (pv 0) pe_int (fun _ _ => rfl)) (pe_ix ix_tup (pv 1) pe_int (fun _ _ => rfl))) (pe_op op_mulW (pe_ix ix_tup (pv 1) pe_int (fun _ _ => rfl)) (pe_ix ix_tup (pv 0) pe_int (fun _ _ => rfl)))) (pa_cons pe_int pa_nil))) (pa_cons (pe_op op_mulW (pe_ix ix_tup (pv 0) pe_int (fun _ _ => rfl)) (pe_ix ix_tup (pv 1) pe_int (fun _ _ => rfl))) pa_nil))))), ?_⟩
    show (_ : TS) _ [some _, some _] _
    try dsimp only [cxOf, Cx.nox]
    have m1 : CMulW p.num (q.den : Int) := cmul z1.1 (szd z2) (by decide) (by decide) (by decide)
    have m2 : CMulW q.num (p.den : Int) := cmul z2.1 (szd z1) (by decide) (by decide) (by decide)
    have m3 : CMulW (p.den : Int) (q.den : Int) := cmul (szd z1) (szd z2) (by decide) (by decide) (by decide)
    walk_at "go"
    have e1 := mulz z1.1 (szd z2)
    have e2 := mulz z2.1 (szd z1)
    have e3 : p.den * q.den < 2 ^ (4000 + 4000) := by rw [Nat.pow_add]; exact Nat.mul_lt_mul'' z1.2 z2.2
    have e4 : (2 : Nat) ^ (4000 + 4000) + 2 ^ (4000 + 4000) ≤ 2 ^ 8900 := by decide +kernel
    have n1 : 0 ≤ p.num * (q.den : Int) := Int.mul_nonneg (num_nn p0) (by omega)
    have n2 : 0 ≤ q.num * (p.den : Int) := Int.mul_nonneg (num_nn q0) (by omega)
    refine ⟨(max (p.num * (q.den : Int) - q.num * (p.den : Int)) 0).toNat, p.den * q.den, ?_, Nat.mul_pos p.den_pos q.den_pos, ?_, by omega, fun v H' e a => k v H' e ?_⟩
    · rw [Int.toNat_of_nonneg (by omega), Int.natCast_mul, max_if]
    · generalize (2 : Nat) ^ (4000 + 4000) = B at *
      generalize (2 : Nat) ^ 8900 = C at *
      omega
    · rw [mk_rest] at a
      exact a
abbrev s_law_less : Stmt := top 60
theorem c_law_less : FnScope ["_law_one", "_law_two"] ["_law_one", "_law_two"] (defScope s_law_less) := ⟨rfl, rfl, rfl, by decide +kernel, rfl, by decide +kernel, by decide +kernel⟩
theorem f_law_less (F : FunD K "_law_less" "_law_less" (defArgs s_law_less) (defBody s_law_less) (defScope s_law_less) [] [] f fd) (hm : mg "_law_less" = some (.ref f))  : Fn P w K mg base 1 "_law_less" (spLess K) := by
  refine fn_def F hm c_law_less (fun vs H Q E h => ?_) (fun _ _ _ _ _ _ us hl => match us, hl with | [_, _], _ => rfl) (fun cdv A outer s H vs Q E hr h => ?_)
  · obtain ⟨v1, v2, p, q, rfl, _⟩ := h
    rfl
  · obtain ⟨v1, v2, p, q, rfl, ⟨a1, rfl, h1⟩, ⟨a2, rfl, h2⟩, z1, z2, k⟩ := h
    have nd := c_law_less.nd
    refine ⟨_, (pss_one (ps_ret (pe_cmpR op_lt (pe_op op_mulW (pe_ix ix_tup (pv 0) pe_int (fun _ _ => rfl)) (pe_ix ix_tup (pv 1) pe_int (fun _ _ => rfl))) (pe_op op_mulW (pe_ix ix_tup (pv 1) pe_int (fun _ _ => rfl)) (pe_ix ix_tup (pv 0) pe_int (fun _ _ => rfl))) (nomark _)))), ?_⟩
    show (_ : TS) _ [some _, some _] _
    try dsimp only [cxOf, Cx.nox]
    have m1 : CMulW p.num (q.den : Int) := cmul z1.1 (szd z2) (by decide) (by decide) (by decide)
    have m2 : CMulW q.num (p.den : Int) := cmul z2.1 (szd z1) (by decide) (by decide) (by decide)
    walk_at "go"
    have e : decide (p.num * (q.den : Int) < q.num * (p.den : Int)) = decide (p < q) := decide_eq_decide.mpr (Rat.lt_iff p q).symm
    rw [e]
    exact k
abbrev s_law_min : Stmt := top 61
theorem c_law_min : FnScope ["_law_one", "_law_two"] ["_law_one", "_law_two"] (defScope s_law_min) := ⟨rfl, rfl, rfl, by decide +kernel, rfl, by decide +kernel, by decide +kernel⟩
theorem f_law_min (F : FunD K "_law_min" "_law_min" (defArgs s_law_min) (defBody s_law_min) (defScope s_law_min) [] [] f fd) (hm : mg "_law_min" = some (.ref f)) (F_law_less : Fn P w K mg base 1 "_law_less" (spLess K)) : Fn P w K mg base 2 "_law_min" (sp2 (fun _ _ => True) lmin K) := by
  refine fn_def F hm c_law_min (fun vs H Q E h => ?_) (fun _ _ _ _ _ _ us hl => match us, hl with | [_, _], _ => rfl) (fun cdv A outer s H vs Q E hr h => ?_)
  · obtain ⟨v1, v2, p, q, rfl, _⟩ := h
    rfl
  · obtain ⟨v1, v2, p, q, rfl, h1, h2, z1, z2, p0, q0, _, k⟩ := h
    have nd := c_law_min.nd
    refine ⟨_, (pss_one (ps_ret (pe_ifExp (pt_val (pe_fn F_law_less (hr.mono (by decide)) (pa_cons (pv 1) (pa_cons (pv 0) pa_nil)))) (pv 1) (pv 0)))), ?_⟩
    show (_ : TS) _ [some _, some _] _
    try dsimp only [cxOf, Cx.nox]
    walk_at "go"
    refine ⟨_, _, q, p, rfl, h2, h1, z2, z1, ?_⟩
    refine r_bl ?_
    refine r_dec (fun hl => ?_) (fun hl => ?_)
    · walk_at "go"
      refine k _ _ Ext.refl ?_
      unfold lmin
      rw [if_pos hl]
      exact h2
    · walk_at "go"
      refine k _ _ Ext.refl ?_
      unfold lmin
      rw [if_neg hl]
      exact h1
def gmax (p q : Rat) : Rat := if p < q then q else p
abbrev s_law_max : Stmt := top 62
theorem c_law_max : FnScope ["_law_one", "_law_two"] ["_law_one", "_law_two"] (defScope s_law_max) := ⟨rfl, rfl, rfl, by decide +kernel, rfl, by decide +kernel, by decide +kernel⟩
theorem f_law_max (F : FunD K "_law_max" "_law_max" (defArgs s_law_max) (defBody s_law_max) (defScope s_law_max) [] [] f fd) (hm : mg "_law_max" = some (.ref f)) (F_law_less : Fn P w K mg base 1 "_law_less" (spLess K)) : Fn P w K mg base 2 "_law_max" (sp2 (fun _ _ => True) gmax K) := by
  refine fn_def F hm c_law_max (fun vs H Q E h => ?_) (fun _ _ _ _ _ _ us hl => match us, hl with | [_, _], _ => rfl) (fun cdv A outer s H vs Q E hr h => ?_)
  · obtain ⟨v1, v2, p, q, rfl, _⟩ := h
    rfl
  · obtain ⟨v1, v2, p, q, rfl, h1, h2, z1, z2, p0, q0, _, k⟩ := h
    have nd := c_law_max.nd
    refine ⟨_, (pss_one (ps_ret (pe_ifExp (pt_val (pe_fn F_law_less (hr.mono (by decide)) (pa_cons (pv 0) (pa_cons (pv 1) pa_nil)))) (pv 1) (pv 0)))), ?_⟩
    show (_ : TS) _ [some _, some _] _
    try dsimp only [cxOf, Cx.nox]
    walk_at "go"
    refine ⟨_, _, p, q, rfl, h1, h2, z1, z2, ?_⟩
    refine r_bl ?_
    refine r_dec (fun hl => ?_) (fun hl => ?_)
    · walk_at "go"
      refine k _ _ Ext.refl ?_
      unfold gmax
      rw [if_pos hl]
      exact h2
    · walk_at "go"
      refine k _ _ Ext.refl ?_
      unfold gmax
      rw [if_neg hl]
      exact h1
/-- an amount times a fraction of numbers -/
def spScaled (K : PySem.W.Frag) : Sp := fun vs H Q _ => ∃ (v : V) (q : Rat) (a b : Nat), vs = [v, .int (a : Int), .int (b : Int)] ∧ Am K H v q ∧ 0 ≤ q ∧ 0 < b ∧ Sz 4000 q ∧ a < 2 ^ 400 ∧ b < 2 ^ 400 ∧ RetAm K H Q (q * mkRat a b)
theorem mk_scaled (q : Rat) (a b : Nat) : mkRat (q.num * (a : Int)) (q.den * b) = q * mkRat a b := by
  conv => rhs; rw [← Rat.mkRat_self q]
  rw [Rat.mkRat_mul_mkRat]
abbrev s_law_scaled : Stmt := top 59
theorem c_law_scaled : FnScope ["_law_one", "_law_top", "_law_bottom"] ["_law_one", "_law_top", "_law_bottom"] (defScope s_law_scaled) := ⟨rfl, rfl, rfl, by decide +kernel, rfl, by decide +kernel, by decide +kernel⟩
theorem f_law_scaled (F : FunD K "_law_scaled" "_law_scaled" (defArgs s_law_scaled) (defBody s_law_scaled) (defScope s_law_scaled) [] [] f fd) (hm : mg "_law_scaled" = some (.ref f)) (F_law_amount : Fn P w K mg base 1 "_law_amount" (spPair K)) : Fn P w K mg base 2 "_law_scaled" (spScaled K) := by
  refine fn_def F hm c_law_scaled (fun vs H Q E h => ?_) (fun _ _ _ _ _ _ us hl => match us, hl with | [_, _, _], _ => rfl) (fun cdv A outer s H vs Q E hr h => ?_)
  · obtain ⟨v, q, a, b, rfl, _⟩ := h
    rfl
  · obtain ⟨v, q, a, b, rfl, ⟨a1, rfl, h1⟩, q0, hb, z1, ha2, hb2, k⟩ := h
    have nd := c_law_scaled.nd
    refine ⟨_, (pss_one (ps_ret (pe_fn F_law_amount (hr.mono (by decide)) (pa_cons (pe_op op_mulW (pe_ix ix_tup (pv 0) pe_int (fun _ _ => rfl)) (pv 1)) (pa_cons (pe_op op_mulW (pe_ix ix_tup (pv 0) pe_int (fun _ _ => rfl)) (pv 2)) pa_nil))))), ?_⟩
    show (_ : TS) _ [some _, some _, some _] _
    try dsimp only [cxOf, Cx.nox]
    have ha3 : (a : Int).natAbs < 2 ^ 400 := by rw [Int.natAbs_natCast]; exact ha2
    have hb3 : (b : Int).natAbs < 2 ^ 400 := by rw [Int.natAbs_natCast]; exact hb2
    have m1 : CMulW q.num (a : Int) := cmul z1.1 ha3 (by decide) (by decide) (by decide)
    have m2 : CMulW (q.den : Int) (b : Int) := cmul (szd z1) hb3 (by decide) (by decide) (by decide)
    walk_at "go"
    have e1 := mulz z1.1 ha3
    have e3 : q.den * b < 2 ^ (4000 + 400) := by rw [Nat.pow_add]; exact Nat.mul_lt_mul'' z1.2 hb2
    have e4 : (2 : Nat) ^ (4000 + 400) ≤ 2 ^ 8900 := by decide +kernel
    have n1 : 0 ≤ q.num * (a : Int) := Int.mul_nonneg (num_nn q0) (by omega)
    refine ⟨(q.num * (a : Int)).toNat, q.den * b, ?_, Nat.mul_pos q.den_pos hb, ?_, by omega, fun v H' e am => k v H' e ?_⟩
    · rw [Int.toNat_of_nonneg (by omega), Int.natCast_mul]
    · generalize (2 : Nat) ^ (4000 + 400) = B at *
      generalize (2 : Nat) ^ 8900 = C at *
      omega
    · rw [Int.toNat_of_nonneg (by omega), mk_scaled q a b] at am
      exact am
end
end Yk

set_option maxHeartbeats 4000000
namespace Yk
open PySem PySem.Spec PyProof.Rows L2

/-! _law_same: data that is alike. -/
section
variable {P : Program} {w : World} {K : PySem.W.Frag} {mg : Str → Option Value} {base : Heap} {f : Addr} {fd : FuncData}
abbrev s_law_same : Stmt := top 63
theorem c_law_same : FnScope ["_law_told", "_law_due_here", "_law_one", "_law_two"] ["_law_told", "_law_due_here"] (defScope s_law_same) := ⟨rfl, rfl, rfl, by decide +kernel, rfl, by decide +kernel, by decide +kernel⟩
theorem f_law_same (F : FunD K "_law_same" "_law_same" (defArgs s_law_same) (defBody s_law_same) (defScope s_law_same) [] [] f fd) (hm : mg "_law_same" = some (.ref f)) (T : Bt mg) (n : Nat) (F_law_same : Fn P w K mg base n "_law_same" (spLike K n)) : Fn P w K mg base (n+1) "_law_same" (spLike K (n + 1)) := by
  refine fn_def F hm c_law_same (fun vs H Q E h => ?_) (fun _ _ _ _ _ _ us hl => match us, hl with | [_, _], _ => rfl) (fun cdv A outer s H vs Q E hr h => ?_)
  · obtain ⟨v1, v2, rfl, _⟩ := h
    rfl
  · obtain ⟨v1, v2, rfl, he, k⟩ := h
    have nd := c_law_same.nd
    refine ⟨_, (pss_cons (ps_if (pt_val (pe_callB call_isiT (by rfl) T.isinstance (by decide +kernel) (pa_cons (pv 1) (pa_cons (pe_tup (pa_cons (pe_bltn (v := .ty "tuple") (by rfl) T.tuple (by decide +kernel) rfl) (pa_cons (pe_bltn (v := .ty "list") (by rfl) T.list (by decide +kernel) rfl) pa_nil))) pa_nil))))
        (pss_cons (ps_if (PW.pt (pw_or (pt_cmpR op_ne (pe_callB call_isi (by rfl) T.isinstance (by decide +kernel) (pa_cons (pv 0) (pa_cons (pe_bltn (v := .ty "tuple") (by rfl) T.tuple (by decide +kernel) rfl) pa_nil))) (pe_callB call_isi (by rfl) T.isinstance (by decide +kernel) (pa_cons (pv 1) (pa_cons (pe_bltn (v := .ty "tuple") (by rfl) T.tuple (by decide +kernel) rfl) pa_nil))) (nomark _)) (pw_or1 (pt_cmpR op_ne (pe_callB call_isi (by rfl) T.isinstance (by decide +kernel) (pa_cons (pv 0) (pa_cons (pe_bltn (v := .ty "list") (by rfl) T.list (by decide +kernel) rfl) pa_nil))) (pe_callB call_isi (by rfl) T.isinstance (by decide +kernel) (pa_cons (pv 1) (pa_cons (pe_bltn (v := .ty "list") (by rfl) T.list (by decide +kernel) rfl) pa_nil))) (nomark _)))))
          (pss_one (ps_ret pe_bl))
          pss_nil)
        (pss_one (ps_ret (pe_and (pe_cmpR op_eq (pe_callB cr_len (by rfl) T.len (by decide +kernel) (pa_cons (pv 0) pa_nil)) (pe_callB cr_len (by rfl) T.len (by decide +kernel) (pa_cons (pv 1) pa_nil)) (nomark _)) (pe_one (pe_callB (cr_all rfl) (by rfl) T.all (by decide +kernel) (pa_cons (pe_lc (own := [("_law_one", 2), ("_law_two", 3)])  rfl nd (RZ.pi_zipA (by rfl) T.zip (pa_cons (pv 0) (pa_cons (pv 1) pa_nil))) (blkOk_by (N := ["_law_told", "_law_due_here", "_law_one", "_law_two"]) (sc := defScope s_law_same) (by decide +kernel)) (fun _ _ _ _ _ => (pg_tup (n := 2) rfl (pgs_cons (pg_name (i := 2) nd rfl (Or.inl rfl)) (pgs_cons (pg_name (i := 3) nd rfl (Or.inl rfl)) pgs_nil)) : PG _ _ (gTup K 2 _))) (fun _ _ _ _ _ => pts_nil) (fun _ _ _ _ _ => (pe_fn F_law_same (hr.mono (Nat.le_refl _)) (pa_cons (pv 2) (pa_cons (pv 3) pa_nil))))) pa_nil)))))))
        pss_nil)
      (pss_cons (ps_if (PW.pt (pw_or (pt_cmpR op_isN (pv 1) pe_non (nomark _)) (pw_or1 (pt_cmpR op_isN (pv 0) pe_non (nomark _)))))
        (pss_one (ps_ret (pe_and (pe_cmpR op_isN (pv 1) pe_non (nomark _)) (pe_one (pe_cmpR op_isN (pv 0) pe_non (nomark _))))))
        pss_nil)
      (pss_cons (ps_if (PW.pt (pw_or (pt_cmpR op_ne (pe_callB call_isi (by rfl) T.isinstance (by decide +kernel) (pa_cons (pv 0) (pa_cons (pe_bltn (v := .ty "bool") (by rfl) T.bool (by decide +kernel) rfl) pa_nil))) (pe_callB call_isi (by rfl) T.isinstance (by decide +kernel) (pa_cons (pv 1) (pa_cons (pe_bltn (v := .ty "bool") (by rfl) T.bool (by decide +kernel) rfl) pa_nil))) (nomark _)) (pw_or1 (pt_cmpR op_ne (pe_callB call_isi (by rfl) T.isinstance (by decide +kernel) (pa_cons (pv 0) (pa_cons (pe_bltn (v := .ty "int") (by rfl) T.int (by decide +kernel) rfl) pa_nil))) (pe_callB call_isi (by rfl) T.isinstance (by decide +kernel) (pa_cons (pv 1) (pa_cons (pe_bltn (v := .ty "int") (by rfl) T.int (by decide +kernel) rfl) pa_nil))) (nomark _)))))
        (pss_one (ps_ret pe_bl))
        pss_nil)
      (pss_one (ps_ret (pe_and (pe_cmpR op_eq (pe_callB call_isi (by rfl) T.isinstance (by decide +kernel) (pa_cons (pv 0) (pa_cons (pe_bltn (v := .ty "str") (by rfl) T.str (by decide +kernel) rfl) pa_nil))) (pe_callB call_isi (by rfl) T.isinstance (by decide +kernel) (pa_cons (pv 1) (pa_cons (pe_bltn (v := .ty "str") (by rfl) T.str (by decide +kernel) rfl) pa_nil))) (nomark _)) (pe_one (pe_cmpR op_eq (pv 0) (pv 1) (nomark _))))))))), ?_⟩
    show (_ : TS) _ [some _, some _, none, none] _
    try dsimp only [cxOf, Cx.nox]
    cases he with
    | non n =>
      walk_at "run"
      exact k _ (by walk_at "ext")
    | bl n b =>
      walk_at "run"
      rw [decide_eq_true rfl]
      exact k _ (by walk_at "ext")
    | int n i =>
      walk_at "run"
      rw [decide_eq_true rfl]
      exact k _ (by walk_at "ext")
    | str n z =>
      walk_at "run"
      rw [decide_eq_true rfl]
      exact k _ (by walk_at "ext")
    | @tup n a b xs ys ha hb hl h4 h =>
      walk_at "run"
      refine r_true (len_is (by rw [hl])) ?_
      walk_at "run"
      refine ⟨a, b, xs, ys, rfl, .inr ⟨by walk_at "sq", by walk_at "sq", fun D hD => ?_⟩⟩
      generalize hH : upd H _ _ = H0 at *
      have e0 : Ext [] H H0 := by
        rw [← hH]
        walk_at "ext"
      refine r_lcZT hl (fun i H1 => Ext [] H0 H1 ∧ H1 D = some (.lst ((List.replicate i true).map V.bl))) ⟨Ext.refl.new hD, upd_same⟩ (fun i H1 p => ⟨tup0 (e0.trans p.1) ha, tup0 (e0.trans p.1) hb⟩) ?_ ?_
      · rintro i x y T H1 hx hy ⟨e1, hD1⟩ hT
        walk_at "run"
        refine ⟨rfl, ?_⟩
        walk_at "run"
        have hi : i < xs.length := (List.getElem?_eq_some_iff.mp hx).1
        have e2 : Ext [] H0 (upd H1 T (.tup [x, y])) := e1.new hT
        refine ⟨x, y, rfl, (h i x y hx hy).x0 (e0.trans e2), fun H2 e3 => ?_⟩
        have hD2 : H2 D = some (.lst ((List.replicate i true).map V.bl)) := e3 _ _ (by rw [upd_ne (ne_of_none hD1 hT)]; exact hD1) fun z => nomatch z
        refine ⟨_, hD2, ?_, (e2.trans e3).own hD, ?_⟩
        · rw [List.length_map, List.length_replicate]
          exact Nat.lt_of_le_of_lt (by omega : i ≤ 4000) (by decide)
        · rw [List.replicate_succ', List.map_append]
          exact upd_same
      · rintro H1 ⟨e1, hD1⟩
        walk_at "run"
        refine r_all (bs := List.replicate xs.length true) (.inl (.inl hD1)) ?_
        rw [show (List.replicate xs.length true).all id = true by simp]
        exact k _ (e0.trans e1)
    | @lst n a b xs ys ha hb hl h4 h =>
      walk_at "run"
      refine r_true (len_is (by rw [hl])) ?_
      walk_at "run"
      refine ⟨a, b, xs, ys, rfl, .inl ⟨by walk_at "sq", by walk_at "sq", fun D hD => ?_⟩⟩
      generalize hH : upd H _ _ = H0 at *
      have e0 : Ext [] H H0 := by
        rw [← hH]
        walk_at "ext"
      refine r_lcZL hl (fun i H1 => Ext [] H0 H1 ∧ H1 D = some (.lst ((List.replicate i true).map V.bl))) ⟨Ext.refl.new hD, upd_same⟩ (fun i H1 p => ⟨lst0 (e0.trans p.1) ha, lst0 (e0.trans p.1) hb⟩) ?_ ?_
      · rintro i x y T H1 hx hy ⟨e1, hD1⟩ hT
        walk_at "run"
        refine ⟨rfl, ?_⟩
        walk_at "run"
        have hi : i < xs.length := (List.getElem?_eq_some_iff.mp hx).1
        have e2 : Ext [] H0 (upd H1 T (.tup [x, y])) := e1.new hT
        refine ⟨x, y, rfl, (h i x y hx hy).x0 (e0.trans e2), fun H2 e3 => ?_⟩
        have hD2 : H2 D = some (.lst ((List.replicate i true).map V.bl)) := e3 _ _ (by rw [upd_ne (ne_of_none hD1 hT)]; exact hD1) fun z => nomatch z
        refine ⟨_, hD2, ?_, (e2.trans e3).own hD, ?_⟩
        · rw [List.length_map, List.length_replicate]
          exact Nat.lt_of_le_of_lt (by omega : i ≤ 4000) (by decide)
        · rw [List.replicate_succ', List.map_append]
          exact upd_same
      · rintro H1 ⟨e1, hD1⟩
        walk_at "run"
        refine r_all (bs := List.replicate xs.length true) (.inl (.inl hD1)) ?_
        rw [show (List.replicate xs.length true).all id = true by simp]
        exact k _ (e0.trans e1)
end
end Yk

set_option maxHeartbeats 4000000
namespace Yk
open PySem PySem.Spec PyProof.Rows L2

/-! Drawn amounts. -/
theorem of_intN {K : PySem.W.Frag} {H : Hp} {b : Bag} {l : Addr} {ns : List Int} {Q : VK} {E : XK} (hb : BagAt K H b) (hl : SqL K H l (ns.map V.int)) (hne : b.a ≠ l) (h0 : 0 < ns.length) (h4 : ns.length ≤ 4000) (k : ∀ x H', x ∈ ns → BagAt K H' b → Ext [b.a] H H' → Q (.int x) H') : spOf K [.ref b.a, .ref l] H Q E :=
  ⟨b, l, _, rfl, hb, hl, hne, by rw [List.length_map]; exact h0, by rw [List.length_map]; exact h4, fun i x H' hx hb' e => by
    rw [List.getElem?_map] at hx
    cases e2 : ns[i]? with
    | none => rw [e2] at hx; cases hx
    | some z => rw [e2] at hx; cases hx; exact k z H' (List.mem_of_getElem? e2) hb' e⟩
def spSome (K : PySem.W.Frag) : Sp := fun vs H Q _ => ∃ (b : Bag) (M : Nat), vs = [.ref b.a, .int (M : Int)] ∧ BagAt K H b ∧ M ≤ 2 ^ 60 ∧ ∀ v q H', Am K H' v q → In 30 M q → BagAt K H' b → Ext [b.a] H H' → Q v H'
section
variable {P : Program} {w : World} {K : PySem.W.Frag} {mg : Str → Option Value} {base : Heap} {f : Addr} {fd : FuncData}
abbrev s_law_some : Stmt := top 64
theorem c_law_some : FnScope ["_law_bag_here", "_law_most", "_law_bottom"] ["_law_bag_here", "_law_most"] (defScope s_law_some) := ⟨rfl, rfl, rfl, by decide +kernel, rfl, by decide +kernel, by decide +kernel⟩
theorem f_law_some (F : FunD K "_law_some" "_law_some" (defArgs s_law_some) (defBody s_law_some) (defScope s_law_some) [] [] f fd) (hm : mg "_law_some" = some (.ref f)) (T : Bt mg) (F_law_draw : Fn P w K mg base 1 "_law_draw" (spDraw K)) (F_law_of : Fn P w K mg base 2 "_law_of" (spOf K)) (F_law_amount : Fn P w K mg base 1 "_law_amount" (spPair K)) : Fn P w K mg base 3 "_law_some" (spSome K) := by
  refine fn_def F hm c_law_some (fun vs H Q E h => ?_) (fun _ _ _ _ _ _ us hl => match us, hl with | [_, _], _ => rfl) (fun cdv A outer s H vs Q E hr h => ?_)
  · obtain ⟨b, M, rfl, _⟩ := h
    rfl
  · obtain ⟨b, M, rfl, hb, hM, k⟩ := h
    have nd := c_law_some.nd
    refine ⟨_, (pss_cons (ps_set (i := 2) nd rfl (by first | exact Or.inl rfl | exact Or.inr rfl) (pe_fn F_law_of (hr.mono (by decide)) (pa_cons (pv 0) (pa_cons (pe_lst (pa_cons pe_int (pa_cons pe_int (pa_cons pe_int (pa_cons pe_int (pa_cons pe_int (pa_cons pe_int (pa_cons pe_int (pa_cons pe_int pa_nil))))))))) pa_nil))))
      (pss_one (ps_ret (pe_fn F_law_amount (hr.mono (by decide)) (pa_cons (pe_fn F_law_draw (hr.mono (by decide)) (pa_cons (pv 0) (pa_cons (pe_op op_add (pe_op op_mulW (pv 1) (pv 2)) pe_int) pa_nil))) (pa_cons (pv 2) pa_nil)))))), ?_⟩
    show (_ : TS) _ [some _, some _, none] _
    try dsimp only [cxOf, Cx.nox]
    walk_at "go"
    rename_i p hp
    refine of_intN (ns := [1, 1, 2, 1, 3, 1, 2, 5]) (hb.new hp) lstS (hb.ne hp) (Nat.zero_lt_succ _) (show 8 ≤ 4000 by decide) fun x H1 hx b1 n1 => ?_
    obtain ⟨d, rfl, d0, d5, dd⟩ : ∃ d : Nat, x = (d : Int) ∧ 0 < d ∧ d ≤ 5 ∧ d ∣ 30 := by
      simp only [List.mem_cons, List.not_mem_nil, or_false] at hx
      rcases hx with rfl | rfl | rfl | rfl | rfl | rfl | rfl | rfl
      · exact ⟨1, rfl, by decide, by decide, by decide⟩
      · exact ⟨1, rfl, by decide, by decide, by decide⟩
      · exact ⟨2, rfl, by decide, by decide, by decide⟩
      · exact ⟨1, rfl, by decide, by decide, by decide⟩
      · exact ⟨3, rfl, by decide, by decide, by decide⟩
      · exact ⟨1, rfl, by decide, by decide, by decide⟩
      · exact ⟨2, rfl, by decide, by decide, by decide⟩
      · exact ⟨5, rfl, by decide, by decide, by decide⟩
    have e1 : Ext [b.a] H H1 := Ext.trans (Ext.refl.new hp) n1
    have h60 : M ≤ 1152921504606846976 := hM
    have mw : CMulW (M : Int) (d : Int) := cmul (m := 61) (n := 4) (Nat.lt_of_le_of_lt (by omega : (M : Int).natAbs ≤ 1152921504606846976) (by decide)) (Nat.lt_of_le_of_lt (by omega : (d : Int).natAbs ≤ 5) (by decide)) (by decide) (by decide) (by decide)
    have hmd : M * d ≤ 1152921504606846976 * 5 := Nat.mul_le_mul h60 d5
    walk_at "go"
    have e2 : (M : Int) * (d : Int) = ((M * d : Nat) : Int) := by rw [Int.natCast_mul]
    rw [e2]
    refine k_draw b1 (by omega) (Int.lt_of_le_of_lt (by omega : ((M * d : Nat) : Int) + 1 ≤ 1152921504606846976 * 5 + 1) (by decide)) fun y H2 y0 y1 b2 n2 => ?_
    walk_at "go"
    refine ⟨y.toNat, d, by rw [Int.toNat_of_nonneg y0], d0, Nat.lt_of_le_of_lt (by omega : y.toNat ≤ 1152921504606846976 * 5) (Nat.lt_of_lt_of_le (by decide) (Nat.pow_le_pow_right (by decide) (by decide : 100 ≤ 8900))), Nat.lt_of_le_of_lt d5 (Nat.lt_of_lt_of_le (by decide) (Nat.pow_le_pow_right (by decide) (by decide : 100 ≤ 8900))), fun v H3 e3 a3 => ?_⟩
    exact k v _ H3 a3 (In.frac d0 dd (by omega)) (b2.x0 e3) (e1.trans (n2.trans (e3.mono fun _ z => nomatch z)))
/-- a part: so many of so many -/
structure PartQ (q r : Rat) : Prop where
  ex : ∃ a b : Nat, a ≤ b ∧ 0 < b ∧ b ∣ 30 ∧ r = q * mkRat (a : Int) b
theorem PartQ.le {q r : Rat} (h : PartQ q r) (h0 : 0 ≤ q) : 0 ≤ r ∧ r ≤ q := by
  obtain ⟨a, b, hab, hb, _, rfl⟩ := h.ex
  have i : In b 1 (mkRat (a : Int) b) := In.frac hb (Nat.dvd_refl b) (by omega)
  have h1 := i.le
  have h2 := Rat.mul_le_mul_of_nonneg_left h1 h0
  refine ⟨Rat.mul_nonneg h0 i.nn, ?_⟩
  have e : q * ((1 : Nat) : Rat) = q := by norm_cast; grind
  rw [e] at h2
  exact h2
theorem PartQ.in_ {D M : Nat} {q r : Rat} (h : PartQ q r) (i : In D M q) : In (D * 30) M r := by
  obtain ⟨a, b, hab, hb, hd, e⟩ := h.ex
  have h1 : In 30 1 (mkRat (a : Int) b) := In.frac hb hd (by omega)
  have h2 := i.mul h1
  rw [e]
  rw [Nat.mul_one] at h2
  exact h2
def spPart (K : PySem.W.Frag) : Sp := fun vs H Q _ => ∃ (b : Bag) (v : V) (q : Rat), vs = [.ref b.a, v] ∧ BagAt K H b ∧ Am K H v q ∧ 0 ≤ q ∧ Sz 4000 q ∧ ∀ u r H', Am K H' u r → PartQ q r → BagAt K H' b → Ext [b.a] H H' → Q u H'
theorem part_pairs : ∀ p ∈ ([(1, 1), (0, 1), (1, 2), (1, 1), (2, 3), (1, 5)] : List (Nat × Nat)), p.1 ≤ p.2 ∧ 0 < p.2 ∧ p.2 ∣ 30 ∧ p.2 ≤ 5 := by decide
/-- a row of pairs of numbers -/
def Prs2 (K : PySem.W.Frag) (H : Hp) (xs : List V) (ps : List (Nat × Nat)) : Prop := Rel (fun v p => ∃ a, v = V.ref a ∧ SqT K H a [.int (p.1 : Int), .int (p.2 : Int)]) xs ps
abbrev s_law_part : Stmt := top 65
theorem c_law_part : FnScope ["_law_bag_here", "_law_one", "_law_top", "_law_bottom"] ["_law_bag_here", "_law_one"] (defScope s_law_part) := ⟨rfl, rfl, rfl, by decide +kernel, rfl, by decide +kernel, by decide +kernel⟩
theorem f_law_part (F : FunD K "_law_part" "_law_part" (defArgs s_law_part) (defBody s_law_part) (defScope s_law_part) [] [] f fd) (hm : mg "_law_part" = some (.ref f)) (T : Bt mg) (F_law_of : Fn P w K mg base 2 "_law_of" (spOf K)) (F_law_scaled : Fn P w K mg base 2 "_law_scaled" (spScaled K)) : Fn P w K mg base 3 "_law_part" (spPart K) := by
  refine fn_def F hm c_law_part (fun vs H Q E h => ?_) (fun _ _ _ _ _ _ us hl => match us, hl with | [_, _], _ => rfl) (fun cdv A outer s H vs Q E hr h => ?_)
  · obtain ⟨b, v, q, rfl, _⟩ := h
    rfl
  · obtain ⟨b, v, q, rfl, hb, hv, q0, hz, k⟩ := h
    have nd := c_law_part.nd
    refine ⟨_, (pss_cons (ps_asg (pe_fn F_law_of (hr.mono (by decide)) (pa_cons (pv 0) (pa_cons (pe_lst (pa_cons (pe_tup (pa_cons pe_int (pa_cons pe_int pa_nil))) (pa_cons (pe_tup (pa_cons pe_int (pa_cons pe_int pa_nil))) (pa_cons (pe_tup (pa_cons pe_int (pa_cons pe_int pa_nil))) (pa_cons (pe_tup (pa_cons pe_int (pa_cons pe_int pa_nil))) (pa_cons (pe_tup (pa_cons pe_int (pa_cons pe_int pa_nil))) (pa_cons (pe_tup (pa_cons pe_int (pa_cons pe_int pa_nil))) pa_nil))))))) pa_nil))) (pg_tup rfl (pgs_cons (pg_name (i := 2) nd rfl (by first | exact Or.inl rfl | exact Or.inr rfl)) (pgs_cons (pg_name (i := 3) nd rfl (by first | exact Or.inl rfl | exact Or.inr rfl)) pgs_nil))))
      (pss_one (ps_ret (pe_fn F_law_scaled (hr.mono (by decide)) (pa_cons (pv 1) (pa_cons (pv 2) (pa_cons (pv 3) pa_nil))))))), ?_⟩
    show (_ : TS) _ [some _, some _, none, none] _
    try dsimp only [cxOf, Cx.nox]
    walk_at "go"
    rename_i p1 h1 p2 h2 p3 h3 p4 h4 p5 h5 p6 h6 p hp
    have hbn : b.a ≠ p := BagAt.ne (hb.x0 (by walk_at "ext")) hp
    generalize hG : upd _ p _ = H1
    have e1 : Ext [] H H1 := by rw [← hG]; walk_at "ext"
    have hl : SqL K H1 p [.ref p1, .ref p2, .ref p3, .ref p4, .ref p5, .ref p6] := by rw [← hG]; exact lstS
    have hr : Prs2 K H1 [.ref p1, .ref p2, .ref p3, .ref p4, .ref p5, .ref p6] [(1, 1), (0, 1), (1, 2), (1, 1), (2, 3), (1, 5)] := by
      rw [← hG]
      refine .cons ⟨_, rfl, by walk_at "sq"⟩ (.cons ⟨_, rfl, by walk_at "sq"⟩ (.cons ⟨_, rfl, by walk_at "sq"⟩ (.cons ⟨_, rfl, by walk_at "sq"⟩ (.cons ⟨_, rfl, by walk_at "sq"⟩ (.cons ⟨_, rfl, by walk_at "sq"⟩ .nil)))))
    have b1 := hb.x0 e1
    refine ⟨b, p, _, rfl, b1, hl, hbn, Nat.zero_lt_succ _, show 6 ≤ 4000 by decide, fun i x H2 hx b2 n2 => ?_⟩
    obtain ⟨⟨s, t⟩, hst, a, rfl, ha⟩ := hr.at_ hx
    obtain ⟨hst1, ht0, htd, ht5⟩ := part_pairs _ (List.mem_of_getElem? hst)
    have ha2 : SqT K H2 a [.int (s : Int), .int (t : Int)] := tupX n2 ha fun x hx => by rw [List.mem_singleton.mp hx]; exact b1.lst
    walk_at "go"
    have lt4 : ∀ n : Nat, n ≤ 5 → n < 2 ^ 400 := fun n hn => Nat.lt_of_le_of_lt hn (Nat.lt_of_lt_of_le (by decide) (Nat.pow_le_pow_right (by decide) (by decide : 100 ≤ 400)))
    dsimp only at hst1 ht0 htd ht5
    refine ⟨v, q, s, t, rfl, (hv.x0 e1).b b1 n2, q0, ht0, hz, lt4 s (by omega), lt4 t ht5, fun u H3 e3 a3 => ?_⟩
    exact k u _ H3 a3 ⟨s, t, hst1, ht0, htd, rfl⟩ (b2.x0 e3) (e1.mono (fun _ z => nomatch z) |>.trans (n2.trans (e3.mono fun _ z => nomatch z)))
end
end Yk

set_option maxHeartbeats 4000000
namespace Yk
open PySem PySem.Spec PyProof.Rows L2

/-! Sums of rows by the law. -/
theorem szG {X M : Nat} {q : Rat} (h : In X M q) (h0 : 0 < X) (hX : X ≤ 2 ^ 400) (hM : M ≤ 2 ^ 400) : Sz 4000 q := (h.sz h0 hX hM).mono (by decide)
theorem sum_in {X M : Nat} : ∀ {l : List Rat}, (∀ q ∈ l, In X M q) → In X (l.length * M) (sumQ l)
  | [], _ => In.zero
  | q :: l, h => by
    rw [sumQ_cons, List.length_cons, Nat.add_mul, Nat.one_mul, Nat.add_comm]
    exact (h q List.mem_cons_self).add (sum_in fun x hx => h x (List.mem_cons_of_mem _ hx))
section
variable {P : Program} {w : World} {K : PySem.W.Frag} {mg : Str → Option Value} {base : Heap} {f : Addr} {fd : FuncData}
def spLAll (K : PySem.W.Frag) : Sp := fun vs H Q _ => ∃ t xs qs X M, vs = [V.ref t] ∧ SqL K H t xs ∧ Ams K H xs qs ∧ (∀ q ∈ qs, In X M q) ∧ 0 < X ∧ X ≤ 2 ^ 400 ∧ qs.length * M ≤ 2 ^ 400 ∧ RetAm K H Q (sumQ qs)
end
end Yk

set_option maxHeartbeats 4000000
namespace Yk
open PySem PySem.Spec PyProof.Rows L2

/-! plus, told of multiples of one part. -/
section
variable {P : Program} {w : World} {K : PySem.W.Frag} {mg : Str → Option Value} {base : Heap} {f : Addr} {fd : FuncData}
def spPlusIT (K : PySem.W.Frag) : Sp := fun vs H Q _ => ∃ t xs qs X M, vs = [V.ref t] ∧ SqT K H t xs ∧ Ams K H xs qs ∧ (∀ q ∈ qs, In X M q) ∧ 0 < X ∧ X ≤ 2 ^ 400 ∧ qs.length * M ≤ 2 ^ 400 ∧ RetAm K H Q (sumQ qs)
def spPlusI (K : PySem.W.Frag) : Sp := fun vs H Q _ => ∃ qs X M, Ams K H vs qs ∧ (∀ q ∈ qs, In X M q) ∧ 0 < X ∧ X ≤ 2 ^ 400 ∧ qs.length * M ≤ 2 ^ 400 ∧ qs.length ≤ 4000 ∧ RetAm K H Q (sumQ qs)
theorem g_plus (F : FunD K "plus" "plus" (defArgs s_plus) (defBody s_plus) (defScope s_plus) [] [] f fd) (hm : mg "plus" = some (.ref f)) (TZ : ∃ z, mg "ZERO" = some (.ref z) ∧ ∀ H, SqT K H z [.int 0, .int 1]) (F_added : Fn P w K mg base 1 "_added" (spAdded K)) : Fn P w K mg base 2 "plus" (spPlusI K) := by
  refine fn_star (ps := []) (pv := "amounts") (sp := spPlusIT K) F hm c_plus (fun _ _ _ _ _ _ us rest hl => match us, rest, hl with | [], [], _ => rfl | [], _ :: _, _ => rfl) (fun cdv A outer s H vs Q E hr h => ?_) ?himp
  case himp =>
    exact fun vs H Q E ⟨qs, X, M, h1, h2, h3, h4, h5, h6, k⟩ => ⟨[], vs, rfl, rfl, Nat.le_trans (by rw [h1.1]; exact h6 : vs.length ≤ 4000) (by decide), fun p hp => ⟨p, vs, qs, X, M, rfl, tupS, h1.x0 (Ext.refl.new hp), h2, h3, h4, h5, fun v H' e a => k v H' ((Ext.refl.new hp).trans e) a⟩⟩
  · obtain ⟨t, xs, qs, X, M, rfl, ht, ha, hz, hX, hX4, hl, k⟩ := h
    have nd := c_plus.nd
    obtain ⟨z, mz, TZ⟩ := TZ
    refine ⟨_, (pss_cons (ps_set (i := 1) nd rfl (by first | exact Or.inl rfl | exact Or.inr rfl) (pe_glob (v := .ref z) rfl mz rfl))
      (pss_cons (ps_for PassesOwn.never rfl (pi_tup (pv 0)) (pg_name (i := 2) nd rfl (by first | exact Or.inl rfl | exact Or.inr rfl))
        (pss_one (ps_set (i := 1) nd rfl (by first | exact Or.inl rfl | exact Or.inr rfl) (pe_fn F_added (hr.mono (by decide)) (pa_cons (pv 1) (pa_cons (pv 2) pa_nil))))))
      (pss_one (ps_ret (pv 1))))), ?_⟩
    show (_ : TS) _ [some _, none, none] _
    try dsimp only [cxOf, Cx.nox]
    walk_at "go"
    refine r_forT rfl ht (fun i σ H1 => Ext [] H H1 ∧ ∃ fv u, σ = [some (.ref t), some fv, u] ∧ Am K H1 fv (sumQ (qs.take i))) ⟨Ext.refl, _, _, rfl, ⟨z, rfl, TZ _⟩⟩ (fun i σ H1 _ h => tup0 h.1 ht) ?_ ?_
    · rintro i x σ H1 hx ⟨e1, fv, u, rfl, hf⟩
      have hi : i < qs.length := by rw [← ha.1]; exact (List.getElem?_eq_some_iff.mp hx).1
      have hq : qs[i]? = some qs[i] := List.getElem?_eq_getElem hi
      have hM : qs.length * M ≤ 2 ^ 400 := hl
      have h1M : M ≤ qs.length * M := Nat.le_mul_of_pos_left M (by omega)
      have hb : In X (qs.length * M) (sumQ (qs.take i)) := (sum_in fun q hq => hz q (List.mem_of_mem_take hq)).most (Nat.mul_le_mul_right M (by rw [List.length_take]; omega))
      have hq0 := hz _ (List.getElem_mem hi)
      walk_at "go"
      refine ⟨_, _, _, qs[i], rfl, hf, (ha.2 i x _ hx hq).x0 e1, szG hb hX hX4 hM, szG hq0 hX hX4 (Nat.le_trans h1M hM), fun v H' e a => ?_⟩
      walk_at "go"
      refine ⟨e1.trans e, _, _, rfl, ?_⟩
      rw [sumQ_take hq]
      exact a
    · rintro σ H1 ⟨e1, fv, u, rfl, hf⟩
      walk_at "go"
      rw [ha.1, List.take_length] at hf
      exact k _ _ e1 hf
end
end Yk

set_option maxHeartbeats 4000000
/-! len(set(v)), v a list or a tuple of texts that all differ (the library's rule reaches one text). -/
namespace YkS
open PySem PySem.Spec PyProof.Rows
theorem take_mem {xs : List Str} (hd : xs.Nodup) {i : Nat} (hi : i < xs.length) : xs.getD i Str.empty ∉ xs.take i := by
  rw [List.getD_eq_getElem?_getD, List.getElem?_eq_getElem hi, Option.getD_some]
  intro h
  obtain ⟨j, hj, e⟩ := List.mem_take_iff_getElem.mp h
  have hj' : j < i := by omega
  exact absurd (List.getElem_inj (h₀ := by omega) (h₁ := hi) hd |>.mp e) (by omega)
theorem take_next {xs : List Str} {i : Nat} (hi : i < xs.length) (z : Str) : (decide (z ∈ xs.take i) || decide (z = xs.getD i Str.empty)) = decide (z ∈ xs.take (i + 1)) := by
  have e : xs.take (i + 1) = xs.take i ++ [xs[i]] := by
    rw [List.take_add_one, List.getElem?_eq_getElem hi]
    rfl
  have e2 : xs.getD i Str.empty = xs[i] := by rw [List.getD_eq_getElem?_getD, List.getElem?_eq_getElem hi, Option.getD_some]
  rw [e, e2, Bool.eq_iff_iff, Bool.or_eq_true, decide_eq_true_iff, decide_eq_true_iff, decide_eq_true_iff, List.mem_append, List.mem_singleton]
section
variable {prog : Program} {w : World} {A : Around} {R : Result → Shared → Prop} {I : Addr} {fp wr : List Addr} {G : Array GenState → Array GenState → Prop} {n : Nat} {P : Nat → Value → Prop} {St : Nat → Shared → Prop}
/-- texts that all differ go into the set one behind the other: it has one more each time -/
theorem fills (W : WalksS prog w A.in1 I fp wr G n P St) {S : Addr} (hS : S ∉ fp) {xs : List Str} (hd : xs.Nodup) (hl : xs.length = n) (hb : n + 1 < scanBound) (hv : ∀ i v, P i v → ∃ t, v = .str (xs.getD i Str.empty) t) (m : Nat) :
    ∀ (i : Nat) (s : Shared), i + m = n → St i s → s.heap.SetOf (PySem.strKind prog w) S (fun z => decide (z ∈ xs.take i)) i →
      (∀ s', Moved (S :: wr) G s s' → s'.heap.SetOf (PySem.strKind prog w) S (fun z => decide (z ∈ xs.take n)) n → R (.ok (.ret .none)) s') → codeAny (model prog w) A (.builtin "set.update.loop" ⟨[.ref S, .ref I], []⟩) R s := by
  have nw : S ∉ wr := fun h => hS (W.sub _ h)
  have up : ∀ b ∈ wr, b ∈ S :: wr := fun b h => List.mem_cons_of_mem _ h
  have mv : ∀ {i : Nat} {s s' : Shared}, Moved wr G s s' → s.heap.SetOf (PySem.strKind prog w) S (fun z => decide (z ∈ xs.take i)) i → s'.heap.SetOf (PySem.strKind prog w) S (fun z => decide (z ∈ xs.take i)) i := fun hm h => by
    obtain ⟨o, es, ep, t, ho, r⟩ := h
    exact ⟨o, es, ep, t, hm.heap S _ nw ho, r⟩
  induction m with
  | zero =>
    intro i s e st hs k
    obtain rfl : i = n := by omega
    refine codeAny_builtin PyProof.Rows.F.entry_set_update_loop ?_
    rw [Around.under_plainId PyProof.Rows.F.plain_set_update_loop _]
    show wpAny _ A.in1 (pyNext (.ref I) >>= _) _ _ s
    exact wpAny_bind (W.done s _ _ st fun s' hm => wpAny_pure (k s' (hm.mono up) (mv hm hs)))
  | succ m ih =>
    intro i s e st hs k
    have hi : i < n := by omega
    refine codeAny_builtin PyProof.Rows.F.entry_set_update_loop ?_
    rw [Around.under_plainId PyProof.Rows.F.plain_set_update_loop _]
    show wpAny _ A.in1 (pyNext (.ref I) >>= _) _ _ s
    refine wpAny_bind (W.item i s _ _ hi st fun v s1 hp st1 hm => ?_)
    obtain ⟨t, rfl⟩ := hv i v hp
    show wpAny _ A.in1 (holding [Value.str (xs.getD i Str.empty) t] (setAdd S (.str (xs.getD i Str.empty) t)) >>= _) _ _ s1
    refine wpAny_bind (wpAny_holding ?_)
    unfold setAdd
    refine wpAny_holding (wpAny_bind ((PySem.strKind prog w).pyHash (k := xs.getD i Str.empty) (strKind_is _ _ _ _) ?_))
    refine wpAny_setAddHashed_of (knd := PySem.strKind prog w) (s := { s1 with toks := s1.toks + 1 }) (strKind_is _ _ _ _) rfl (mv (s' := s1) hm hs) (by omega) fun h' same hs2 => ?_
    have hs3 : h'.SetOf (PySem.strKind prog w) S (fun z => decide (z ∈ xs.take (i + 1))) (i + 1) :=
      SetOf_congr hs2 (fun z => take_next (by omega) z) (by rw [decide_eq_false (take_mem hd (by omega))] <;> rfl)
    refine wpAny_pure ⟨plainId_quiet PyProof.Rows.F.plain_set_update_loop _, ih (i + 1) _ (by omega) (W.frame _ s1 _ _ st1 (Nat.le_succ _) fun b hb o ho => ?_) hs3 fun s2 hm2 hs4 => ?_⟩
    · rw [same.2 b fun z : b = S => hS (z ▸ hb)]
      exact ho
    · refine k s2 (Moved.trans W.gtrans ((hm.mono up).then_heap (Nat.le_succ _) fun b o hb ho => ?_) hm2) hs4
      rw [same.2 b fun z : b = S => hb (z ▸ List.mem_cons_self)]
      exact ho
end
/-- an empty set, new -/
def So (b : Bool) : Obj := { cls := .type "set", dict := none, data := .set #[] 0 (.fresh 0 0 b) }

section
variable {prog : Program} {w : World} {A : Around} {E : Value → Shared → Prop} {s : Shared} {l : Addr} {items : Array Value} {xs : List Str} {Q : Value → Shared → Prop}
theorem set_list (hh : A.handled = none) (hl : s.heap.IsList l items) (hi : StrsAre items.toList xs) (hd : xs.Nodup) (hb : items.size + 1 < scanBound)
    (h : ∀ (h' : Heap) (tk : Nat), h'.SetOf (PySem.strKind prog w) s.heap.objs.size (fun z => decide (z ∈ xs.take items.size)) items.size → (∀ b o, b < s.heap.objs.size → s.heap.get? b = some o → h'.get? b = some o) → Q (.ref s.heap.objs.size) { s with heap := h', toks := tk }) :
    wpAny (model prog w) A (call (.type "set") [.ref l]) Q E s := by
  obtain ⟨c, tl, hmro⟩ := PySem.F.called_set.mro
  have hmade := PySem.F.called_set.made
  have hsub := PySem.F.called_set.sub
  refine wpAny_call (codeAny_of_tree ?_)
  show wpAny _ _ (callAny (.type "set") _) _ _ _
  refine wpAny_pure ⟨Code.quiet_builtin _ (by decide +kernel), codeAny_builtin PySem.F.entry_type_call ?_⟩
  rw [Around.under_plain (weight_type_call_type "set" [.ref l] []) rfl]
  have g1 := PySem.F.called_set.notType
  have g2 := PySem.F.called_set.canCreate
  have g3 := PySem.F.typeCall_set_1 (.ref l)
  repeat (any_goals (first | assumption | wp_step))
  refine codeAny_mono (code_set_new_1 (.ref l) (E := E) (Q₁ := fun u s1 => ∃ b : Bool, u = .ref s.heap.objs.size ∧ s1 = { s with heap := s.heap.push (So b) }) fun b => ⟨b, rfl, rfl⟩) fun r s1 hr => ?_
  rcases r with e | fl
  · exact hr
  cases fl with
  | ret u =>
    obtain ⟨b, rfl, rfl⟩ := hr
    have hS : (s.heap.push (So b)).get? s.heap.objs.size = some (So b) := Heap.get?_push_size _ rfl
    have hT : Shared.TypeIs { s with heap := s.heap.push (So b) } (.ref s.heap.objs.size) "set" := ⟨_, hS, rfl⟩
    have g4 := PySem.F.called_set.init.lookup
    have g5 := PySem.F.called_set.init.bind (.ref s.heap.objs.size)
    repeat (any_goals (first | assumption | wp_step))
    refine codeAny_mono (codeAny_call_builtin (R := wants (fun r s2 => r = .none ∧ ∃ h' tk, s2 = { s with heap := h', toks := tk } ∧ h'.SetOf (PySem.strKind prog w) s.heap.objs.size (fun z => decide (z ∈ xs.take items.size)) items.size ∧
      ∀ b o, b < s.heap.objs.size → s.heap.get? b = some o → h'.get? b = some o) E) PySem.F.called_set.init.plain PySem.F.entry_set_init (check_set_init_1 hT ?_)) fun r2 s2 hr2 => ?_
    · obtain ⟨⟨oc, od, dt, sl⟩, ho, hc, nl, hd2⟩ := hl
      simp only at hc hd2
      subst hc
      subst hd2
      have ho1 : (s.heap.push (So b)).get? l = some { cls := .type "list", dict := od, data := .seq items nl, slots := sl } := Heap.get?_push_of_some _ ho
      have f1 := PySem.F.sub_list_set
      have f2 := PySem.F.sub_list_frozenset
      have f3 : (Value.type "list" == Value.type "dict") = false := by decide
      have hl1 : (s.heap.push (So b)).IsList l items := ⟨_, ho1, rfl, nl, rfl⟩
      unfold Builtin.«set.__init__» noKeywords Builtin.Frozenset.updateFrom
      generalize hPI : pyIter = PI
      wp_walk
      subst hPI
      refine wpAny_pyIter_list hl1 (wpAny_bind (wpAny_runValue ?_))
      have lt : l < s.heap.objs.size := Heap.lt_size ho
      have h3 : A.in1.in1.in1.handled = none := by simp [hh]
      have ne : l ≠ (s.heap.push (So b)).objs.size := by
        rw [Heap.size_push]
        exact Nat.ne_of_lt (Nat.lt_succ_of_lt lt)
      have nf : s.heap.objs.size ∉ [(s.heap.push (So b)).objs.size, l] := by
        rw [Heap.size_push]
        simp only [List.mem_cons, List.not_mem_nil, or_false, not_or]
        exact ⟨Nat.ne_of_lt (Nat.lt_succ_self _), Nat.ne_of_gt lt⟩
      have ln : xs.length = items.size := by rw [← StrsAre.len_eq hi, Array.length_toList]
      refine fills ((Walks.list h3 _ l ne items).toS) nf hd ln (by omega) (fun i v hv => SS.strs_at hi i v (by rw [Array.getElem?_toList]; exact hv)) items.size 0 _ (by omega) ⟨⟨_, Heap.get?_push_size _ rfl, rfl, rfl⟩, hl1.push _⟩ ?h0 ?hk
      case h0 =>
        have hg : ((s.heap.push (So b)).push { cls := .type "list_iterator", data := .fields #[.ref l, .int 0 0] }).get? s.heap.objs.size = some (So b) := Heap.get?_push_of_some _ hS
        exact SetOf_congr ((setObjOf_fresh (knd := PySem.strKind prog w) b).setOf hg (by unfold scanBound; omega)) (fun _ => rfl) rfl
      case hk =>
        intro s3 hm hs3
        obtain ⟨h', g', d', tk', os'⟩ := s3
        obtain rfl : g' = s.gens := hm.gens
        obtain rfl : d' = s.drawn := hm.drawn
        obtain rfl : os' = s.os := hm.os
        show wpAny _ _ _ _ _ _
        refine wpAny_pure ?_
        show wpAny _ _ (ret Value.none) _ _ _
        refine wpAny_pure ⟨rfl, h', tk', rfl, hs3, fun c o hc e => ?_⟩
        exact hm.heap c o (by
          rw [Heap.size_push]
          simp only [List.mem_cons, List.not_mem_nil, or_false, not_or]
          exact ⟨Nat.ne_of_lt hc, Nat.ne_of_lt (Nat.lt_succ_of_lt hc)⟩) (Heap.get?_push_of_some _ (Heap.get?_push_of_some _ e))
    · rcases r2 with e | fl2
      · exact hr2
      cases fl2 with
      | ret r =>
        obtain ⟨rfl, h', tk, rfl, hs3, kp⟩ := hr2
        repeat (any_goals (first | assumption | wp_step))
        exact h _ _ hs3 kp
      | _ => exact hr2.elim
  | _ => exact hr.elim
theorem set_tuple (hh : A.handled = none) (hl : s.heap.IsTuple l items) (hi : StrsAre items.toList xs) (hd : xs.Nodup) (hb : items.size + 1 < scanBound)
    (h : ∀ (h' : Heap) (tk : Nat), h'.SetOf (PySem.strKind prog w) s.heap.objs.size (fun z => decide (z ∈ xs.take items.size)) items.size → (∀ b o, b < s.heap.objs.size → s.heap.get? b = some o → h'.get? b = some o) → Q (.ref s.heap.objs.size) { s with heap := h', toks := tk }) :
    wpAny (model prog w) A (call (.type "set") [.ref l]) Q E s := by
  obtain ⟨c, tl, hmro⟩ := PySem.F.called_set.mro
  have hmade := PySem.F.called_set.made
  have hsub := PySem.F.called_set.sub
  refine wpAny_call (codeAny_of_tree ?_)
  show wpAny _ _ (callAny (.type "set") _) _ _ _
  refine wpAny_pure ⟨Code.quiet_builtin _ (by decide +kernel), codeAny_builtin PySem.F.entry_type_call ?_⟩
  rw [Around.under_plain (weight_type_call_type "set" [.ref l] []) rfl]
  have g1 := PySem.F.called_set.notType
  have g2 := PySem.F.called_set.canCreate
  have g3 := PySem.F.typeCall_set_1 (.ref l)
  repeat (any_goals (first | assumption | wp_step))
  refine codeAny_mono (code_set_new_1 (.ref l) (E := E) (Q₁ := fun u s1 => ∃ b : Bool, u = .ref s.heap.objs.size ∧ s1 = { s with heap := s.heap.push (So b) }) fun b => ⟨b, rfl, rfl⟩) fun r s1 hr => ?_
  rcases r with e | fl
  · exact hr
  cases fl with
  | ret u =>
    obtain ⟨b, rfl, rfl⟩ := hr
    have hS : (s.heap.push (So b)).get? s.heap.objs.size = some (So b) := Heap.get?_push_size _ rfl
    have hT : Shared.TypeIs { s with heap := s.heap.push (So b) } (.ref s.heap.objs.size) "set" := ⟨_, hS, rfl⟩
    have g4 := PySem.F.called_set.init.lookup
    have g5 := PySem.F.called_set.init.bind (.ref s.heap.objs.size)
    repeat (any_goals (first | assumption | wp_step))
    refine codeAny_mono (codeAny_call_builtin (R := wants (fun r s2 => r = .none ∧ ∃ h' tk, s2 = { s with heap := h', toks := tk } ∧ h'.SetOf (PySem.strKind prog w) s.heap.objs.size (fun z => decide (z ∈ xs.take items.size)) items.size ∧
      ∀ b o, b < s.heap.objs.size → s.heap.get? b = some o → h'.get? b = some o) E) PySem.F.called_set.init.plain PySem.F.entry_set_init (check_set_init_1 hT ?_)) fun r2 s2 hr2 => ?_
    · obtain ⟨⟨oc, od, dt, sl⟩, ho, hc, nl, hd2⟩ := hl
      simp only at hc hd2
      subst hc
      subst hd2
      have ho1 : (s.heap.push (So b)).get? l = some { cls := .type "tuple", dict := od, data := .seq items nl, slots := sl } := Heap.get?_push_of_some _ ho
      have f1 := PySem.F.sub_tuple_set
      have f2 := PySem.F.sub_tuple_frozenset
      have f3 : (Value.type "tuple" == Value.type "dict") = false := by decide
      have hl1 : (s.heap.push (So b)).IsTuple l items := ⟨_, ho1, rfl, nl, rfl⟩
      unfold Builtin.«set.__init__» noKeywords Builtin.Frozenset.updateFrom
      generalize hPI : pyIter = PI
      wp_walk
      subst hPI
      refine wpAny_pyIter_tuple hl1 (wpAny_bind (wpAny_runValue ?_))
      have lt : l < s.heap.objs.size := Heap.lt_size ho
      have h3 : A.in1.in1.in1.handled = none := by simp [hh]
      have ne : l ≠ (s.heap.push (So b)).objs.size := by
        rw [Heap.size_push]
        exact Nat.ne_of_lt (Nat.lt_succ_of_lt lt)
      have nf : s.heap.objs.size ∉ [(s.heap.push (So b)).objs.size, l] := by
        rw [Heap.size_push]
        simp only [List.mem_cons, List.not_mem_nil, or_false, not_or]
        exact ⟨Nat.ne_of_lt (Nat.lt_succ_self _), Nat.ne_of_gt lt⟩
      have ln : xs.length = items.size := by rw [← StrsAre.len_eq hi, Array.length_toList]
      refine fills ((Walks.tuple h3 _ l ne items).toS) nf hd ln (by omega) (fun i v hv => SS.strs_at hi i v (by rw [Array.getElem?_toList]; exact hv)) items.size 0 _ (by omega) ⟨⟨_, Heap.get?_push_size _ rfl, rfl, rfl⟩, hl1.push _⟩ ?h0 ?hk
      case h0 =>
        have hg : ((s.heap.push (So b)).push { cls := .type "tuple_iterator", data := .fields #[.ref l, .int 0 0] }).get? s.heap.objs.size = some (So b) := Heap.get?_push_of_some _ hS
        exact SetOf_congr ((setObjOf_fresh (knd := PySem.strKind prog w) b).setOf hg (by unfold scanBound; omega)) (fun _ => rfl) rfl
      case hk =>
        intro s3 hm hs3
        obtain ⟨h', g', d', tk', os'⟩ := s3
        obtain rfl : g' = s.gens := hm.gens
        obtain rfl : d' = s.drawn := hm.drawn
        obtain rfl : os' = s.os := hm.os
        show wpAny _ _ _ _ _ _
        refine wpAny_pure ?_
        show wpAny _ _ (ret Value.none) _ _ _
        refine wpAny_pure ⟨rfl, h', tk', rfl, hs3, fun c o hc e => ?_⟩
        exact hm.heap c o (by
          rw [Heap.size_push]
          simp only [List.mem_cons, List.not_mem_nil, or_false, not_or]
          exact ⟨Nat.ne_of_lt hc, Nat.ne_of_lt (Nat.lt_succ_of_lt hc)⟩) (Heap.get?_push_of_some _ (Heap.get?_push_of_some _ e))
    · rcases r2 with e | fl2
      · exact hr2
      cases fl2 with
      | ret r =>
        obtain ⟨rfl, h', tk, rfl, hs3, kp⟩ := hr2
        repeat (any_goals (first | assumption | wp_step))
        exact h _ _ hs3 kp
      | _ => exact hr2.elim
  | _ => exact hr.elim
end
end YkS
namespace Yk
open PySem PySem.Spec PyProof.Rows L2
section
variable {X : Cx}
/-- len(set(xs)), xs a list or a tuple of texts that all differ -/
def tLenSetQ (K : PySem.W.Frag) (ta : TE) : TE := fun σ H Q => ta σ H fun x H1 => ∃ (l : Addr) (xs : List Str), x = .ref l ∧ SqQ K H1 l (xs.map V.str) ∧ xs.Nodup ∧ xs.length ≤ 4000 ∧ Q (.int xs.length) H1
theorem pe_lenSetQ {a : Expr} {ta : TE} {p p2 q pos : Pos} (hc : X.calm = true) (hm : X.mg "len" = none) (hm2 : X.mg "set" = none) (ha : PE X a ta) (hg : Gl X "len" := by rfl) (hg2 : Gl X "set" := by rfl)
    (na : starEach [a] X.env = (false, eval a X.env) :: starEach [] X.env := by rfl) : PE X (.Call (.Name "len" p) [.Call (.Name "set" p2) [a] [] q] [] pos) (tLenSetQ X.K ta) := by
  refine ⟨fun pins s σ H Q I h => ?_⟩
  refine Call_ (ld_blt I hg hm boot_len ?_)
  refine PyProof.Rows.callWith_builtin1 (PyProof.Rows.args_cons ?_ rfl) rfl rfl
  refine Call_ (ld_blt I hg2 hm2 boot_set ?_)
  refine PyProof.Rows.callWith_type1 (PyProof.Rows.args_cons (thn (ha.run pins s σ H _ I h) fun v s1 ⟨x, H1, I1, r1, q1⟩ => PyProof.Rows.args_nil ?_) na) na rfl
  obtain ⟨l, xs, rfl, hq, hd, hl, q1⟩ := q1
  cases r1
  have fin : ∀ (its : List Value), Vals (xs.map V.str) its → ∀ (h' : Heap) (tk : Nat), h'.SetOf (PySem.strKind X.prog X.w) s1.heap.objs.size (fun z => decide (z ∈ xs.take its.toArray.size)) its.toArray.size → (∀ b o, b < s1.heap.objs.size → s1.heap.get? b = some o → h'.get? b = some o) →
      wpAny (model X.prog X.w) X.A (spliced (backTo pos (starEach [] X.env))) (fun vs s₂ => wpAny (model X.prog X.w) X.A (call (.builtin "len") (Value.ref s1.heap.objs.size :: vs)) (EP X pins σ Q) X.xe s₂) X.xe { s1 with heap := h', toks := tk } := fun its r h' tk hS hk => by
    refine PyProof.Rows.args_nil ?_
    have e : its.toArray.size = xs.length := by rw [List.size_toArray, ← r.length, List.length_map]
    rw [e] at hS
    obtain ⟨o, es, ep, t, ho, hex, hd, _, _, _, hf, hn⟩ := hS
    have I2 : Inv X pins σ H1 { s1 with heap := h', toks := tk } := I1.kept fun b o e => hk b o (Heap.lt_size e) e
    exact call_len_set ho hex hd hf (by rw [hn] <;> omega) ⟨.int xs.length, H1, I2.tok _, ⟨_, by rw [hn]⟩, q1⟩
  have bd : ∀ {its : List Value}, Vals (xs.map V.str) its → its.toArray.size + 1 < scanBound := fun r => by
    rw [List.size_toArray, ← r.length, List.length_map]
    unfold scanBound
    omega
  rcases hq with hq | hq
  · obtain ⟨its, r, pl, hz⟩ := I1.list hq
    exact YkS.set_list (I1.ok.hd hc) pl.isList (by simpa using strsAre_of r) hd (bd r) fun h' tk hS hk => fin its r h' tk hS hk
  · obtain ⟨its, r, pl, hz⟩ := I1.tuple hq
    exact YkS.set_tuple (I1.ok.hd hc) pl (by simpa using strsAre_of r) hd (bd r) fun h' tk hS hk => fin its r h' tk hS hk
end
end Yk

set_option maxHeartbeats 8000000
namespace Yk
open PySem PySem.Spec PyProof.Rows L2

local macro_rules | `(tactic| walk_at "st") => `(tactic| first
  | with_reducible refine' r_tAt ?_
  | ((with_reducible refine' r_fld ?h1 ?h2 ?h3); (case h1 => first | assumption | exact upd_same); (case h2 => first | walk_at "lk" | rfl))
  | with_reducible refine' r_sAt ?_
  | ((with_reducible refine' r_putU ?h1 ?h2); (case h1 => (repeat refine putF_lt ?_); decide))
  | ((with_reducible refine' r_put ?h1 ?h2 ?h3); (case h1 => first | assumption | exact upd_same); (case h2 => (repeat refine putF_lt ?_); decide))
  | with_reducible refine' r_tMt ?_
  | ((with_reducible refine' r_met ?h1 ?h2 ?h3); (case h1 => first | assumption | exact upd_same); (case h2 => first | walk_at "lk" | rfl))
  | with_reducible refine' r_tCr ?_
  | with_reducible refine' r_tCrK ?_
  | with_reducible refine' r_chain ?_)
/-! Names, small amounts, links: of right values. -/
def nameB (s : Str) : Bool := decide (s.length ≤ 6) && Txt.isascii s && Txt.isalpha s && Txt.islower s
structure SmQ (q : Rat) : Prop where
  n0 : 0 ≤ q
  le : q ≤ 1000
  den : q.den ≤ 12
theorem SmQ.sz {q : Rat} (h : SmQ q) {n : Nat} (hn : 20 ≤ n) : Sz n q := by
  have h1 := num_nn h.n0
  have h2 : q.num ≤ 1000 * (q.den : Int) := by
    have := (Rat.le_iff q 1000).mp h.le
    simpa using this
  have h3 := h.den
  have h4 : (2 : Nat) ^ 20 ≤ 2 ^ n := Nat.pow_le_pow_right (by decide) hn
  refine ⟨Nat.lt_of_lt_of_le ?_ h4, Nat.lt_of_lt_of_le ?_ h4⟩ <;> omega
section
variable {P : Program} {w : World} {K : PySem.W.Frag} {mg : Str → Option Value} {base : Heap} {f : Addr} {fd : FuncData}
def spIsName : Sp := fun vs H Q _ => ∃ s : Str, vs = [.str s] ∧ s.length ≤ 6 ∧ Q (.bl (nameB s)) H
abbrev s_is_name : Stmt := top 5
theorem c_is_name : FnScope ["value"] ["value"] (defScope s_is_name) := ⟨rfl, rfl, rfl, by decide +kernel, rfl, by decide +kernel, by decide +kernel⟩
theorem f_is_name (F : FunD K "is_name" "is_name" (defArgs s_is_name) (defBody s_is_name) (defScope s_is_name) [] [] f fd) (hm : mg "is_name" = some (.ref f)) (T : Bt mg) : Fn P w K mg base 1 "is_name" (spIsName) := by
  refine fn_def F hm c_is_name (fun vs H Q E h => ?_) (fun _ _ _ _ _ _ us hl => match us, hl with | [_], _ => rfl) (fun cdv A outer s H vs Q E hr h => ?_)
  · obtain ⟨s, rfl, _⟩ := h
    rfl
  · obtain ⟨s, rfl, h6, k⟩ := h
    have nd := c_is_name.nd
    refine ⟨_, (pss_cons (ps_if (PW.pt (pw_or (pt_not (pt_val (pe_callB call_isi (by rfl) T.isinstance (by decide +kernel) (pa_cons (pv 0) (pa_cons (pe_bltn (v := .ty "str") (by rfl) T.str (by decide +kernel) rfl) pa_nil))))) (pw_or1 (pt_cmpR op_gt (pe_callB call_len_str (by rfl) T.len (by decide +kernel) (pa_cons (pv 0) pa_nil)) pe_int (nomark _)))))
        (pss_one (ps_ret pe_bl))
        pss_nil)
      (pss_one (ps_ret (pe_and (pe_bm0 PySem.F.plainAttrs_str PySem.F.slot_str_isascii PySem.F.type_str_isascii mt_isascii (pv 0)) (pe_and (pe_bm0 PySem.F.plainAttrs_str PySem.F.slot_str_isalpha PySem.F.type_str_isalpha mt_isalpha (pv 0)) (pe_one (pe_bm0 PySem.F.plainAttrs_str PySem.F.slot_str_islower PySem.F.type_str_islower mt_islower (pv 0)))))))), ?_⟩
    show (_ : TS) _ [some _] _
    try dsimp only [cxOf, Cx.nox]
    walk_at "run"
    refine ⟨_, rfl, Nat.le_trans h6 (by decide), ?_⟩
    walk_at "run"
    refine r_false (decide_eq_false (by omega)) ?_
    walk_at "run"
    unfold nameB at k
    rw [decide_eq_true h6, Bool.true_and] at k
    refine ⟨rfl, _, rfl, rfl, trivial, ?_⟩
    walk_at "run"
    cases e1 : Txt.isascii s with
    | false =>
      rw [e1] at k
      exact r_false rfl k
    | true =>
      refine r_true rfl ?_
      rw [e1, Bool.true_and] at k
      walk_at "run"
      refine ⟨rfl, _, rfl, rfl, trivial, ?_⟩
      walk_at "run"
      cases e2 : Txt.isalpha s with
      | false =>
        rw [e2] at k
        exact r_false rfl k
      | true =>
        refine r_true rfl ?_
        rw [e2, Bool.true_and] at k
        walk_at "run"
        exact ⟨rfl, _, rfl, rfl, trivial, k⟩
def spWithin : Sp := fun vs H Q _ => ∃ n a b : Int, vs = [.int n, .int a, .int b] ∧ Q (.bl (decide (a ≤ n) && decide (n ≤ b))) H
abbrev s_is_number_within : Stmt := top 4
theorem c_is_number_within : FnScope ["value", "first", "last"] ["value", "first", "last"] (defScope s_is_number_within) := ⟨rfl, rfl, rfl, by decide +kernel, rfl, by decide +kernel, by decide +kernel⟩
theorem f_is_number_within (F : FunD K "is_number_within" "is_number_within" (defArgs s_is_number_within) (defBody s_is_number_within) (defScope s_is_number_within) [] [] f fd) (hm : mg "is_number_within" = some (.ref f)) (Fis_number : Fn P w K mg base 1 "is_number" (spIsNum K)) : Fn P w K mg base 2 "is_number_within" (spWithin) := by
  refine fn_def F hm c_is_number_within (fun vs H Q E h => ?_) (fun _ _ _ _ _ _ us hl => match us, hl with | [_, _, _], _ => rfl) (fun cdv A outer s H vs Q E hr h => ?_)
  · obtain ⟨n, a, b, rfl, _⟩ := h
    rfl
  · obtain ⟨n, a, b, rfl, k⟩ := h
    have nd := c_is_number_within.nd
    refine ⟨_, (pss_one (ps_ret (pe_and (pe_fn Fis_number (hr.mono (by decide)) (pa_cons (pv 0) pa_nil)) (pe_one (pe_chain op_le op_le (pv 1) (pv 0) (pv 2)))))), ?_⟩
    show (_ : TS) _ [some _, some _, some _] _
    try dsimp only [cxOf, Cx.nox]
    walk_at "run"
    refine ⟨n, rfl, ?_⟩
    walk_at "run"
    cases e1 : decide (a ≤ n) with
    | false =>
      rw [e1] at k
      exact r_false rfl k
    | true =>
      refine r_true rfl ?_
      rw [e1, Bool.true_and] at k
      walk_at "run"
      exact k
def spSmall (K : PySem.W.Frag) : Sp := fun vs H Q _ => ∃ (v : V) (q : Rat), vs = [v] ∧ Am K H v q ∧ SmQ q ∧ Q (.bl true) H
abbrev s_is_small : Stmt := top 15
theorem c_is_small : FnScope ["value"] ["value"] (defScope s_is_small) := ⟨rfl, rfl, rfl, by decide +kernel, rfl, by decide +kernel, by decide +kernel⟩
theorem f_is_small (F : FunD K "is_small" "is_small" (defArgs s_is_small) (defBody s_is_small) (defScope s_is_small) [] [] f fd) (hm : mg "is_small" = some (.ref f)) (TT : ∃ z, mg "TOP" = some (.ref z) ∧ ∀ H, SqT K H z [.int 1000, .int 1]) (SB : ∃ t, mg "SMALL_BOTTOM" = some (.int 12 t)) (Fis_amount : Fn P w K mg base 2 "is_amount" (spIsAm K)) (Fcompare : Fn P w K mg base 1 "compare" (spCompare K)) : Fn P w K mg base 3 "is_small" (spSmall K) := by
  refine fn_def F hm c_is_small (fun vs H Q E h => ?_) (fun _ _ _ _ _ _ us hl => match us, hl with | [_], _ => rfl) (fun cdv A outer s H vs Q E hr h => ?_)
  · obtain ⟨v, q, rfl, _⟩ := h
    rfl
  · obtain ⟨v, q, rfl, hv, hq, k⟩ := h
    have nd := c_is_small.nd
    obtain ⟨tz, mtz, htz⟩ := TT; obtain ⟨tb, msb⟩ := SB
    refine ⟨_, (pss_one (ps_ret (pe_and (pe_fn Fis_amount (hr.mono (by decide)) (pa_cons (pv 0) pa_nil)) (pe_and (pe_cmpR op_le (pe_ix ix_tup (pv 0) pe_int (fun _ _ => rfl)) (pe_glob (v := .int 12) rfl msb ⟨_, rfl⟩) (nomark _)) (pe_one (pe_cmpR op_le (pe_fn Fcompare (hr.mono (by decide)) (pa_cons (pv 0) (pa_cons (pe_glob (v := .ref tz) rfl mtz rfl) pa_nil))) pe_int (nomark _))))))), ?_⟩
    show (_ : TS) _ [some _] _
    try dsimp only [cxOf, Cx.nox]
    walk_at "run"
    refine ⟨v, q, rfl, hv, hq.n0, ?_⟩
    obtain ⟨a, rfl, ha⟩ := id hv
    walk_at "run"
    refine r_true (decide_eq_true (by have := hq.den; omega)) ?_
    walk_at "run"
    refine ⟨.ref a, .ref tz, q, 1000, rfl, hv, ⟨tz, rfl, htz _⟩, hq.sz (by decide), ⟨by decide +kernel, by decide +kernel⟩, ?_⟩
    walk_at "run"
    have e : decide (cmpQ q 1000 ≤ 0) = true := by
      refine decide_eq_true ?_
      unfold cmpQ
      have := hq.le
      split
      · decide
      · split
        · grind
        · decide
    rw [e]
    exact k
def spCapacity (K : PySem.W.Frag) : Sp := fun vs H Q _ => ∃ (v u : V) (q p : Rat), vs = [v, u] ∧ Am K H v q ∧ Am K H u p ∧ SmQ q ∧ SmQ p ∧ 0 < q ∧ q ≤ p ∧ Q (.bl true) H
def LinkFs (n : Str) (vc vl : V) (w : Int) (d : Str) (b : Bool) : List (Str × V) := [("name", .str n), ("capacity", vc), ("low", vl), ("way", .int w), ("discipline", .str d), ("strange", .bl b)]
def spLinkInit (cL : Addr) (K : PySem.W.Frag) : Sp := fun vs H Q _ => ∃ (a dx : Addr) (n : Str) (vc vl : V) (c l : Rat) (w : Int) (d : Str) (b : Bool), vs = [.ref a, .str n, vc, vl, .int w, .str d, .bl b] ∧ H a = some (.ins cL dx []) ∧ n.length ≤ 6 ∧ nameB n = true ∧ Am K H vc c ∧ Am K H vl l ∧ SmQ c ∧ SmQ l ∧ 0 < c ∧ 0 < l ∧ l ≤ c ∧ 1 ≤ w ∧ w ≤ 20 ∧ (d = "own" ∨ d = "spare" ∨ d = "ranks") ∧ Q .non (upd H a (.ins cL dx (LinkFs n vc vl w d b)))
end
end Yk

set_option maxHeartbeats 8000000
namespace Yk
open PySem PySem.Spec PyProof.Rows L2

local macro_rules | `(tactic| walk_at "st") => `(tactic| first
  | with_reducible refine' r_tAt ?_
  | ((with_reducible refine' r_fld ?h1 ?h2 ?h3); (case h1 => first | assumption | exact upd_same); (case h2 => first | walk_at "lk" | rfl))
  | with_reducible refine' r_sAt ?_
  | ((with_reducible refine' r_putU ?h1 ?h2); (case h1 => (repeat refine putF_lt ?_); decide))
  | ((with_reducible refine' r_put ?h1 ?h2 ?h3); (case h1 => first | assumption | exact upd_same); (case h2 => (repeat refine putF_lt ?_); decide))
  | with_reducible refine' r_tMt ?_
  | ((with_reducible refine' r_met ?h1 ?h2 ?h3); (case h1 => first | assumption | exact upd_same); (case h2 => first | walk_at "lk" | rfl))
  | with_reducible refine' r_tCr ?_
  | with_reducible refine' r_tCrK ?_
  | with_reducible refine' r_chain ?_)
/-! Links as data. -/
structure LinkD where
  n : Str
  c : Rat
  l : Rat
  w : Int
  d : Str
  b : Bool
structure LinkOk (L : LinkD) : Prop where
  n6 : L.n.length ≤ 6
  nm : nameB L.n = true
  sc : SmQ L.c
  sl : SmQ L.l
  c0 : 0 < L.c
  l0 : 0 < L.l
  lc : L.l ≤ L.c
  w1 : 1 ≤ L.w
  w2 : L.w ≤ 20
  di : L.d = "own" ∨ L.d = "spare" ∨ L.d = "ranks"
def LinkAt (cL : Addr) (K : PySem.W.Frag) (H : Hp) (v : V) (L : LinkD) : Prop := ∃ a dx vc vl, v = .ref a ∧ H a = some (.ins cL dx (LinkFs L.n vc vl L.w L.d L.b)) ∧ Am K H vc L.c ∧ Am K H vl L.l
theorem LinkAt.x {S : List Addr} {cL : Addr} {K : PySem.W.Frag} {H H1 : Hp} {v : V} {L : LinkD} (e : Ext S H H1) (h : LinkAt cL K H v L) (hs : ∀ b ∈ S, ∃ l, H b = some (.lst l)) : LinkAt cL K H1 v L := by
  obtain ⟨a, dx, vc, vl, rfl, h, h1, h2⟩ := h
  exact ⟨a, dx, vc, vl, rfl, e _ _ h (fun z => by obtain ⟨l, q⟩ := hs a z; rw [h] at q; cases q), h1.x e hs, h2.x e hs⟩
theorem LinkAt.x0 {cL : Addr} {K : PySem.W.Frag} {H H1 : Hp} {v : V} {L : LinkD} (e : Ext [] H H1) (h : LinkAt cL K H v L) : LinkAt cL K H1 v L := h.x e fun _ z => nomatch z
section
variable {n d : Str} {vc vl : V} {w : Int} {b : Bool}
theorem lk_Link_name : List.lookup ("name" : Str) (LinkFs n vc vl w d b) = some (V.str n) := by kernel_rfl
theorem lk_Link_capacity : List.lookup ("capacity" : Str) (LinkFs n vc vl w d b) = some vc := by kernel_rfl
theorem lk_Link_low : List.lookup ("low" : Str) (LinkFs n vc vl w d b) = some vl := by kernel_rfl
theorem lk_Link_way : List.lookup ("way" : Str) (LinkFs n vc vl w d b) = some (V.int w) := by kernel_rfl
theorem lk_Link_discipline : List.lookup ("discipline" : Str) (LinkFs n vc vl w d b) = some (V.str d) := by kernel_rfl
theorem lk_Link_strange : List.lookup ("strange" : Str) (LinkFs n vc vl w d b) = some (V.bl b) := by kernel_rfl
theorem lk_Link_is_shaky : List.lookup ("is_shaky" : Str) (LinkFs n vc vl w d b) = none := by kernel_rfl
end
local macro_rules | `(tactic| walk_at "lk") => `(tactic| first | with_reducible exact lk_Link_name | with_reducible exact lk_Link_capacity | with_reducible exact lk_Link_low | with_reducible exact lk_Link_way | with_reducible exact lk_Link_discipline | with_reducible exact lk_Link_strange | with_reducible exact lk_Link_is_shaky)
section
variable {P : Program} {w : World} {K : PySem.W.Frag} {mg : Str → Option Value} {base : Heap} {f : Addr} {fd : FuncData}
def spShaky (cL : Addr) (K : PySem.W.Frag) : Sp := fun vs H Q _ => ∃ (v : V) (L : LinkD), vs = [v] ∧ LinkAt cL K H v L ∧ Q (.bl (!decide (L.l = L.c))) H
def spLawLink (cL : Addr) (K : PySem.W.Frag) : Sp := fun vs H Q _ => ∃ (a : Addr) (vc vl : V) (L : LinkD), vs = [.ref a] ∧ SqT K H a [.str L.n, vc, vl, .int L.w, .str L.d, .bl L.b] ∧ Am K H vc L.c ∧ Am K H vl L.l ∧ LinkOk L ∧ ∀ v H', Ext [] H H' → LinkAt cL K H' v L → Q v H'
end
end Yk

set_option maxHeartbeats 8000000
namespace Yk
open PySem PySem.Spec PyProof.Rows L2

local macro_rules | `(tactic| walk_at "st") => `(tactic| first
  | with_reducible refine' r_tAt ?_
  | ((with_reducible refine' r_fld ?h1 ?h2 ?h3); (case h1 => first | assumption | exact upd_same); (case h2 => first | walk_at "lk" | rfl))
  | with_reducible refine' r_sAt ?_
  | ((with_reducible refine' r_putU ?h1 ?h2); (case h1 => (repeat refine putF_lt ?_); decide))
  | ((with_reducible refine' r_put ?h1 ?h2 ?h3); (case h1 => first | assumption | exact upd_same); (case h2 => (repeat refine putF_lt ?_); decide))
  | with_reducible refine' r_tMt ?_
  | ((with_reducible refine' r_met ?h1 ?h2 ?h3); (case h1 => first | assumption | exact upd_same); (case h2 => first | walk_at "lk" | rfl))
  | with_reducible refine' r_tCr ?_
  | with_reducible refine' r_tCrK ?_
  | with_reducible refine' r_chain ?_)
/-! Flows: what their checks say of right values. -/
theorem cmp_le {p q : Rat} (h : p ≤ q) : decide (cmpQ p q ≤ 0) = true := by
  refine decide_eq_true ?_
  unfold cmpQ
  split
  · decide
  · split
    · grind
    · decide
theorem cmp_ngt {p q : Rat} (h : p ≤ q) : decide (cmpQ p q > 0) = false := by
  refine decide_eq_false ?_
  have := of_decide_eq_true (cmp_le h)
  omega
theorem r_isq {K : PySem.W.Frag} {H : Hp} {Q : VK} {a p : Addr} {xs : List V} (hp : H p = some (.tup [.ty "list", .ty "tuple"])) (h : SqQ K H a xs) (k : Q (.bl true) H) : rIsiT K [.ref a, .ref p] H Q :=
  h.elim (fun h => r_isiT hp (tyL h) rfl k) (fun h => r_isiT hp (tyT h) rfl k)
structure BufQ (q : Rat) : Prop where
  n0 : 0 ≤ q
  le : q ≤ 1000000
  sz : Sz 4000 q
section
variable {P : Program} {w : World} {K : PySem.W.Frag} {mg : Str → Option Value} {base : Heap} {f : Addr} {fd : FuncData}
def spSize (K : PySem.W.Frag) : Sp := fun vs H Q _ => ∃ (v : V) (q : Rat), vs = [v] ∧ Am K H v q ∧ BufQ q ∧ Q (.bl true) H
abbrev s_is_size : Stmt := top 46
theorem c_is_size : FnScope ["value"] ["value"] (defScope s_is_size) := ⟨rfl, rfl, rfl, by decide +kernel, rfl, by decide +kernel, by decide +kernel⟩
theorem f_is_size (F : FunD K "_is_size" "_is_size" (defArgs s_is_size) (defBody s_is_size) (defScope s_is_size) [] [] f fd) (hm : mg "_is_size" = some (.ref f)) (TB : ∃ z, mg "LARGEST_BUFFER" = some (.ref z) ∧ ∀ H, SqT K H z [.int 1000000, .int 1]) (Fis_amount : Fn P w K mg base 2 "is_amount" (spIsAm K)) (Fcompare : Fn P w K mg base 1 "compare" (spCompare K)) : Fn P w K mg base 3 "_is_size" (spSize K) := by
  refine fn_def F hm c_is_size (fun vs H Q E h => ?_) (fun _ _ _ _ _ _ us hl => match us, hl with | [_], _ => rfl) (fun cdv A outer s H vs Q E hr h => ?_)
  · obtain ⟨v, q, rfl, _⟩ := h
    rfl
  · obtain ⟨v, q, rfl, hv, hq, k⟩ := h
    have nd := c_is_size.nd
    obtain ⟨tb, mtb, htb⟩ := TB
    refine ⟨_, (pss_one (ps_ret (pe_and (pe_fn Fis_amount (hr.mono (by decide)) (pa_cons (pv 0) pa_nil)) (pe_one (pe_cmpR op_le (pe_fn Fcompare (hr.mono (by decide)) (pa_cons (pv 0) (pa_cons (pe_glob (v := .ref tb) rfl mtb rfl) pa_nil))) pe_int (nomark _)))))), ?_⟩
    show (_ : TS) _ [some _] _
    try dsimp only [cxOf, Cx.nox]
    walk_at "run"
    refine ⟨v, q, rfl, hv, hq.n0, ?_⟩
    walk_at "run"
    refine ⟨v, .ref tb, q, 1000000, rfl, hv, ⟨tb, rfl, htb _⟩, hq.sz, ⟨by decide +kernel, by decide +kernel⟩, ?_⟩
    walk_at "run"
    rw [cmp_le hq.le]
    exact k
def spBufs (K : PySem.W.Frag) : Sp := fun vs H Q _ => ∃ (a : Addr) (xs : List V) (qs : List Rat) (n : Int), vs = [.ref a, .int n] ∧ SqQ K H a xs ∧ Ams K H xs qs ∧ (∀ q ∈ qs, BufQ q) ∧ (xs.length : Int) = n ∧ n ≤ 5 ∧ ∀ H', Ext [] H H' → Q (.bl true) H'
abbrev s_are_buffers : Stmt := top 45
theorem c_are_buffers : FnScope ["value", "many", "size"] ["value", "many"] (defScope s_are_buffers) := ⟨rfl, rfl, rfl, by decide +kernel, rfl, by decide +kernel, by decide +kernel⟩
theorem f_are_buffers (F : FunD K "_are_buffers" "_are_buffers" (defArgs s_are_buffers) (defBody s_are_buffers) (defScope s_are_buffers) [] [] f fd) (hm : mg "_are_buffers" = some (.ref f)) (T : Bt mg) (F_is_size : Fn P w K mg base 3 "_is_size" (spSize K)) : Fn P w K mg base 4 "_are_buffers" (spBufs K) := by
  refine fn_def F hm c_are_buffers (fun vs H Q E h => ?_) (fun _ _ _ _ _ _ us hl => match us, hl with | [_, _], _ => rfl) (fun cdv A outer s H vs Q E hr h => ?_)
  · obtain ⟨a, xs, qs, n, rfl, _⟩ := h
    rfl
  · obtain ⟨a, xs, qs, n, rfl, ha, hq, hb, hn, h5, k⟩ := h
    have nd := c_are_buffers.nd
    refine ⟨_, (pss_cons (ps_if (PW.pt (pw_or (pt_not (pt_val (pe_callB call_isiT (by rfl) T.isinstance (by decide +kernel) (pa_cons (pv 0) (pa_cons (pe_tup (pa_cons (pe_bltn (v := .ty "list") (by rfl) T.list (by decide +kernel) rfl) (pa_cons (pe_bltn (v := .ty "tuple") (by rfl) T.tuple (by decide +kernel) rfl) pa_nil))) pa_nil))))) (pw_or1 (pt_cmpR op_ne (pe_callB cr_len (by rfl) T.len (by decide +kernel) (pa_cons (pv 0) pa_nil)) (pv 1) (nomark _)))))
        (pss_one (ps_ret pe_bl))
        pss_nil)
      (pss_one (ps_ret (pe_callB (cr_all rfl) (by rfl) T.all (by decide +kernel) (pa_cons (pe_lc (own := [("size", 2)]) (g := gName 2) rfl nd (pi_seq (pv 0)) (blkOk_by (N := ["value", "many", "size"]) (sc := defScope s_are_buffers) (by decide +kernel)) (fun _ _ _ _ _ => pg_name (i := 2) nd rfl (Or.inl rfl)) (fun _ _ _ _ _ => pts_nil) (fun _ _ _ _ _ => (pe_fn F_is_size (hr.mono (by decide)) (pa_cons (pv 2) pa_nil)))) pa_nil))))), ?_⟩
    show (_ : TS) _ [some _, some _, none] _
    try dsimp only [cxOf, Cx.nox]
    walk_at "run"
    rename_i np hnp
    have e0 : Ext [] H (upd H np (.tup [.ty "list", .ty "tuple"])) := Ext.refl.new hnp
    refine r_isq upd_same (sqq0 e0 ha) ?_
    walk_at "run"
    refine r_len (sqq0 e0 ha) ?_
    walk_at "run"
    rw [hn, decide_eq_true rfl]
    walk_at "run"
    refine r_lcQ rfl ha (kp0 e0) fun D hD => ⟨fun i H1 => ∃ m : Nat, m = i ∧ H1 D = some (.lst ((List.replicate m true).map V.bl)) ∧ Ext [] H H1, ?_, ?_, ?_, ?_⟩
    · exact ⟨0, rfl, upd_same, e0.new hD⟩
    · rintro j H2 ⟨m, _, _, e⟩
      exact kp0 e
    · rintro j y H1 hy ⟨m, rfl, hacc, e1⟩
      obtain ⟨q, hqi, hqv⟩ := (hq.x0 e1).at_ hy
      walk_at "go"
      refine ⟨rfl, ?_⟩
      walk_at "go"
      refine ⟨y, q, rfl, hqv, hb q (List.mem_of_getElem? hqi), ?_⟩
      have hj := (List.getElem?_eq_some_iff.mp hy).1
      refine ⟨_, hacc, Nat.lt_of_le_of_lt (by rw [List.length_map, List.length_replicate]; omega : _ ≤ 4000) (by decide), m + 1, rfl, ?_, e1.own ?_⟩
      · rw [upd_same, List.replicate_succ', List.map_append]
        rfl
      · exact e0.free hD
    · rintro H1 ⟨m, rfl, hacc, e1⟩
      walk_at "go"
      refine r_all (bs := List.replicate xs.length true) (.inl (.inl hacc)) ?_
      have e : (List.replicate xs.length true).all id = true := by simp
      rw [e]
      exact k _ e1
inductive SizeD
  | no
  | win (q : Rat)
  | tries (n : Int)
def SizeIs (K : PySem.W.Frag) (H : Hp) (v : V) : SizeD → Prop
  | .no => v = .non
  | .win q => Am K H v q ∧ BufQ q
  | .tries n => v = .int n ∧ 1 ≤ n ∧ n ≤ 12
def kindOk (d : Str) : SizeD → Prop
  | .no => d = "level" ∨ d = "eager"
  | .win _ => d = "window"
  | .tries _ => d = "probe"
def spKind (K : PySem.W.Frag) : Sp := fun vs H Q _ => ∃ (d : Str) (v : V) (z : SizeD), vs = [.str d, v] ∧ SizeIs K H v z ∧ kindOk d z ∧ Q (.bl true) H
abbrev s_fits_kind : Stmt := top 48
theorem c_fits_kind : FnScope ["kind", "size"] ["kind", "size"] (defScope s_fits_kind) := ⟨rfl, rfl, rfl, by decide +kernel, rfl, by decide +kernel, by decide +kernel⟩
theorem f_fits_kind (F : FunD K "_fits_kind" "_fits_kind" (defArgs s_fits_kind) (defBody s_fits_kind) (defScope s_fits_kind) [] [] f fd) (hm : mg "_fits_kind" = some (.ref f)) (MT : ∃ t, mg "MOST_TRIES" = some (.int 12 t)) (F_is_size : Fn P w K mg base 3 "_is_size" (spSize K)) (Fis_number_within : Fn P w K mg base 2 "is_number_within" spWithin) : Fn P w K mg base 4 "_fits_kind" (spKind K) := by
  refine fn_def F hm c_fits_kind (fun vs H Q E h => ?_) (fun _ _ _ _ _ _ us hl => match us, hl with | [_, _], _ => rfl) (fun cdv A outer s H vs Q E hr h => ?_)
  · obtain ⟨d, v, z, rfl, _⟩ := h
    rfl
  · obtain ⟨d, v, z, rfl, hz, hd, k⟩ := h
    have nd := c_fits_kind.nd
    obtain ⟨tt, mmt⟩ := MT
    refine ⟨_, (pss_cons (ps_if (pt_cmpR op_eq (pv 0) pe_str (nomark _))
        (pss_one (ps_ret (pe_fn F_is_size (hr.mono (by decide)) (pa_cons (pv 1) pa_nil))))
        pss_nil)
      (pss_cons (ps_if (pt_cmpR op_eq (pv 0) pe_str (nomark _))
        (pss_one (ps_ret (pe_fn Fis_number_within (hr.mono (by decide)) (pa_cons (pv 1) (pa_cons pe_int (pa_cons (pe_glob (v := .int 12) rfl mmt ⟨_, rfl⟩) pa_nil))))))
        pss_nil)
      (pss_one (ps_ret (pe_cmpR op_isN (pv 1) pe_non (nomark _)))))), ?_⟩
    show (_ : TS) _ [some _, some _] _
    try dsimp only [cxOf, Cx.nox]
    walk_at "run"
    cases z with
    | no =>
      have hz : v = .non := hz
      subst hz
      rcases hd with rfl | rfl
      all_goals
        refine r_false (decide_eq_false (by decide +kernel)) ?_
        walk_at "run"
        exact k
    | win q =>
      have hd : d = "window" := hd
      subst hd
      refine r_true (decide_eq_true rfl) ?_
      walk_at "run"
      exact ⟨v, q, rfl, hz.1, hz.2, k⟩
    | tries n =>
      have hd : d = "probe" := hd
      subst hd
      obtain ⟨rfl, h1, h2⟩ := hz
      refine r_false (decide_eq_false (by decide +kernel)) ?_
      walk_at "run"
      refine ⟨n, 1, 12, rfl, ?_⟩
      rw [decide_eq_true h1, decide_eq_true h2]
      exact k
def spChKind (K : PySem.W.Frag) : Sp := fun vs H Q _ => ∃ (d : Str) (v : V) (z : SizeD), vs = [.str d, v] ∧ SizeIs K H v z ∧ kindOk d z ∧ Q .non H
abbrev s_check_kind : Stmt := top 47
theorem c_check_kind : FnScope ["kind", "size"] ["kind", "size"] (defScope s_check_kind) := ⟨rfl, rfl, rfl, by decide +kernel, rfl, by decide +kernel, by decide +kernel⟩
theorem f_check_kind (F : FunD K "_check_kind" "_check_kind" (defArgs s_check_kind) (defBody s_check_kind) (defScope s_check_kind) [] [] f fd) (hm : mg "_check_kind" = some (.ref f)) (TK : ∃ z, mg "KINDS" = some (.ref z) ∧ ∀ H, SqT K H z [.str "level", .str "eager", .str "window", .str "probe"]) (F_fits_kind : Fn P w K mg base 4 "_fits_kind" (spKind K)) : Fn P w K mg base 5 "_check_kind" (spChKind K) := by
  refine fn_def F hm c_check_kind (fun vs H Q E h => ?_) (fun _ _ _ _ _ _ us hl => match us, hl with | [_, _], _ => rfl) (fun cdv A outer s H vs Q E hr h => ?_)
  · obtain ⟨d, v, z, rfl, _⟩ := h
    rfl
  · obtain ⟨d, v, z, rfl, hz, hd, k⟩ := h
    have nd := c_check_kind.nd
    obtain ⟨tk, mtk, htk⟩ := TK
    refine ⟨_, (pss_cons (ps_if (pt_cmpR op_notIn_seq (pv 0) (pe_glob (v := .ref tk) rfl mtk rfl) (by rfl))
        (pss_one ps_never)
        pss_nil)
      (pss_one (ps_if (pt_not (pt_val (pe_fn F_fits_kind (hr.mono (by decide)) (pa_cons (pv 0) (pa_cons (pv 1) pa_nil)))))
        (pss_one ps_never)
        pss_nil))), ?_⟩
    show (_ : TS) _ [some _, some _] _
    try dsimp only [cxOf, Cx.nox]
    walk_at "run"
    refine r_in (.inr (htk _)) rfl rfl ?_
    have hin : inV (.str d) [.str "level", .str "eager", .str "window", .str "probe"] = true := by
      cases z with
      | no => rcases hd with rfl | rfl <;> decide +kernel
      | win q => have hd : d = "window" := hd; subst hd; decide +kernel
      | tries n => have hd : d = "probe" := hd; subst hd; decide +kernel
    rw [hin]
    walk_at "run"
    refine ⟨d, v, z, rfl, hz, hd, ?_⟩
    walk_at "run"
    exact k
def spChProm (K : PySem.W.Frag) : Sp := fun vs H Q _ => ∃ (n : Int) (v u : V) (p q : Rat), vs = [.int n, v, u] ∧ 1 ≤ n ∧ n ≤ 12 ∧ Am K H v p ∧ Am K H u q ∧ SmQ p ∧ SmQ q ∧ p ≤ q ∧ Q .non H
abbrev s_check_promise : Stmt := top 49
theorem c_check_promise : FnScope ["weight", "least", "cap"] ["weight", "least", "cap"] (defScope s_check_promise) := ⟨rfl, rfl, rfl, by decide +kernel, rfl, by decide +kernel, by decide +kernel⟩
theorem f_check_promise (F : FunD K "_check_promise" "_check_promise" (defArgs s_check_promise) (defBody s_check_promise) (defScope s_check_promise) [] [] f fd) (hm : mg "_check_promise" = some (.ref f)) (MW : ∃ t, mg "MOST_WEIGHT" = some (.int 12 t)) (Fis_number_within : Fn P w K mg base 2 "is_number_within" spWithin) (Fis_small : Fn P w K mg base 3 "is_small" (spSmall K)) (Fcompare : Fn P w K mg base 1 "compare" (spCompare K)) : Fn P w K mg base 4 "_check_promise" (spChProm K) := by
  refine fn_def F hm c_check_promise (fun vs H Q E h => ?_) (fun _ _ _ _ _ _ us hl => match us, hl with | [_, _, _], _ => rfl) (fun cdv A outer s H vs Q E hr h => ?_)
  · obtain ⟨n, v, u, p, q, rfl, _⟩ := h
    rfl
  · obtain ⟨n, v, u, p, q, rfl, h1, h2, hv, hu, sp, sq, hpq, k⟩ := h
    have nd := c_check_promise.nd
    obtain ⟨tw, mmw⟩ := MW
    refine ⟨_, (pss_cons (ps_if (pt_not (pt_val (pe_fn Fis_number_within (hr.mono (by decide)) (pa_cons (pv 0) (pa_cons pe_int (pa_cons (pe_glob (v := .int 12) rfl mmw ⟨_, rfl⟩) pa_nil))))))
        (pss_one ps_never)
        pss_nil)
      (pss_cons (ps_if (pt_not (pt_val (pe_fn Fis_small (hr.mono (by decide)) (pa_cons (pv 1) pa_nil))))
        (pss_one ps_never)
        pss_nil)
      (pss_one (ps_if (PW.pt (pw_or (pt_not (pt_val (pe_fn Fis_small (hr.mono (by decide)) (pa_cons (pv 2) pa_nil)))) (pw_or1 (pt_cmpR op_gt (pe_fn Fcompare (hr.mono (by decide)) (pa_cons (pv 1) (pa_cons (pv 2) pa_nil))) pe_int (nomark _)))))
        (pss_one ps_never)
        pss_nil)))), ?_⟩
    show (_ : TS) _ [some _, some _, some _] _
    try dsimp only [cxOf, Cx.nox]
    walk_at "run"
    refine ⟨n, 1, 12, rfl, ?_⟩
    rw [decide_eq_true h1, decide_eq_true h2]
    walk_at "run"
    refine ⟨v, p, rfl, hv, sp, ?_⟩
    walk_at "run"
    refine ⟨u, q, rfl, hu, sq, ?_⟩
    walk_at "run"
    refine ⟨v, u, p, q, rfl, hv, hu, sp.sz (by decide), sq.sz (by decide), ?_⟩
    walk_at "run"
    refine r_false (cmp_ngt hpq) ?_
    walk_at "run"
    exact k
end
end Yk

set_option maxHeartbeats 8000000
namespace Yk
open PySem PySem.Spec PyProof.Rows L2

local macro_rules | `(tactic| walk_at "st") => `(tactic| first
  | with_reducible refine' r_tAt ?_
  | ((with_reducible refine' r_fld ?h1 ?h2 ?h3); (case h1 => first | assumption | exact upd_same); (case h2 => first | walk_at "lk" | rfl))
  | with_reducible refine' r_sAt ?_
  | ((with_reducible refine' r_putU ?h1 ?h2); (case h1 => (repeat refine putF_lt ?_); decide))
  | ((with_reducible refine' r_put ?h1 ?h2 ?h3); (case h1 => first | assumption | exact upd_same); (case h2 => (repeat refine putF_lt ?_); decide))
  | with_reducible refine' r_tMt ?_
  | ((with_reducible refine' r_met ?h1 ?h2 ?h3); (case h1 => first | assumption | exact upd_same); (case h2 => first | walk_at "lk" | rfl))
  | with_reducible refine' r_tCr ?_
  | with_reducible refine' r_tCrK ?_
  | with_reducible refine' r_chain ?_)
/-! Manners. -/
structure PairOk (p : Rat × Rat) : Prop where
  n0 : 0 ≤ p.1
  le : p.1 ≤ p.2
  z1 : Sz 4000 p.1
  z2 : Sz 4000 p.2
section
variable {P : Program} {w : World} {K : PySem.W.Frag} {mg : Str → Option Value} {base : Heap} {f : Addr} {fd : FuncData}
def spIsManW (K : PySem.W.Frag) : Sp := fun vs H Q _ => ∃ (v : V) (man : Option (Rat × Rat)), vs = [v] ∧ ManIs K H v man ∧ (∀ p, man = some p → PairOk p) ∧ Q (.bl true) H
abbrev s_is_manner : Stmt := top 25
theorem c_is_manner : FnScope ["value"] ["value"] (defScope s_is_manner) := ⟨rfl, rfl, rfl, by decide +kernel, rfl, by decide +kernel, by decide +kernel⟩
theorem f_is_manner (F : FunD K "is_manner" "is_manner" (defArgs s_is_manner) (defBody s_is_manner) (defScope s_is_manner) [] [] f fd) (hm : mg "is_manner" = some (.ref f)) (T : Bt mg) (Fis_amount : Fn P w K mg base 2 "is_amount" (spIsAm K)) (Fcompare : Fn P w K mg base 1 "compare" (spCompare K)) : Fn P w K mg base 3 "is_manner" (spIsManW K) := by
  refine fn_def F hm c_is_manner (fun vs H Q E h => ?_) (fun _ _ _ _ _ _ us hl => match us, hl with | [_], _ => rfl) (fun cdv A outer s H vs Q E hr h => ?_)
  · obtain ⟨v, man, rfl, _⟩ := h
    rfl
  · obtain ⟨v, man, rfl, hv, ok, k⟩ := h
    have nd := c_is_manner.nd
    refine ⟨_, (pss_cons (ps_if (pt_not (pt_val (pe_callB call_isi (by rfl) T.isinstance (by decide +kernel) (pa_cons (pv 0) (pa_cons (pe_bltn (v := .ty "tuple") (by rfl) T.tuple (by decide +kernel) rfl) pa_nil)))))
        (pss_one (ps_ret pe_bl))
        pss_nil)
      (pss_cons (ps_if (pt_cmpR op_eq (pe_callB cr_len (by rfl) T.len (by decide +kernel) (pa_cons (pv 0) pa_nil)) pe_int (nomark _))
        (pss_one (ps_ret pe_bl))
        pss_nil)
      (pss_cons (ps_if (PW.pt (pw_or (pt_cmpR op_ne (pe_callB cr_len (by rfl) T.len (by decide +kernel) (pa_cons (pv 0) pa_nil)) pe_int (nomark _)) (pw_or (pt_not (pt_val (pe_fn Fis_amount (hr.mono (by decide)) (pa_cons (pe_ix ix_tup (pv 0) pe_int (fun _ _ => rfl)) pa_nil)))) (pw_or1 (pt_not (pt_val (pe_fn Fis_amount (hr.mono (by decide)) (pa_cons (pe_ix ix_tup (pv 0) pe_int (fun _ _ => rfl)) pa_nil))))))))
        (pss_one (ps_ret pe_bl))
        pss_nil)
      (pss_one (ps_ret (pe_cmpR op_le (pe_fn Fcompare (hr.mono (by decide)) (pa_cons (pe_ix ix_tup (pv 0) pe_int (fun _ _ => rfl)) (pa_cons (pe_ix ix_tup (pv 0) pe_int (fun _ _ => rfl)) pa_nil))) pe_int (nomark _))))))), ?_⟩
    show (_ : TS) _ [some _] _
    try dsimp only [cxOf, Cx.nox]
    cases man with
    | none =>
      obtain ⟨a, rfl, h⟩ := hv
      walk_at "run"
      exact k
    | some p =>
      obtain ⟨a, v1, v2, rfl, h, a1, a2⟩ := hv
      have o := ok p rfl
      walk_at "run"
      refine ⟨v1, p.1, rfl, a1, o.n0, ?_⟩
      walk_at "run"
      refine ⟨v2, p.2, rfl, a2, by have := o.n0; have := o.le; grind, ?_⟩
      walk_at "run"
      refine ⟨v1, v2, p.1, p.2, rfl, a1, a2, o.z1, o.z2, ?_⟩
      walk_at "run"
      rw [cmp_le o.le]
      exact k
def spManIn (K : PySem.W.Frag) : Sp := fun vs H Q _ => ∃ (v u y : V) (man : Option (Rat × Rat)) (l c : Rat), vs = [v, u, y] ∧ ManIs K H v man ∧ Am K H u l ∧ Am K H y c ∧ Sz 4000 l ∧ Sz 4000 c ∧ (∀ p, man = some p → PairOk p ∧ p.1 ≤ l ∧ p.2 ≤ c) ∧ ∀ H', Ext [] H H' → Q (.bl true) H'
abbrev s_is_manner_within : Stmt := top 50
theorem c_is_manner_within : FnScope ["value", "least", "cap"] ["value", "least", "cap"] (defScope s_is_manner_within) := ⟨rfl, rfl, rfl, by decide +kernel, rfl, by decide +kernel, by decide +kernel⟩
theorem f_is_manner_within (F : FunD K "_is_manner_within" "_is_manner_within" (defArgs s_is_manner_within) (defBody s_is_manner_within) (defScope s_is_manner_within) [] [] f fd) (hm : mg "_is_manner_within" = some (.ref f)) (Fis_manner : Fn P w K mg base 3 "is_manner" (spIsManW K)) (Fcompare : Fn P w K mg base 1 "compare" (spCompare K)) : Fn P w K mg base 4 "_is_manner_within" (spManIn K) := by
  refine fn_def F hm c_is_manner_within (fun vs H Q E h => ?_) (fun _ _ _ _ _ _ us hl => match us, hl with | [_, _, _], _ => rfl) (fun cdv A outer s H vs Q E hr h => ?_)
  · obtain ⟨v, u, y, man, l, c, rfl, _⟩ := h
    rfl
  · obtain ⟨v, u, y, man, l, c, rfl, hv, hu, hy, zl, zc, ok, k⟩ := h
    have nd := c_is_manner_within.nd
    refine ⟨_, (pss_cons (ps_if (pt_not (pt_val (pe_fn Fis_manner (hr.mono (by decide)) (pa_cons (pv 0) pa_nil))))
        (pss_one (ps_ret pe_bl))
        pss_nil)
      (pss_one (ps_ret (pe_or (pe_cmpR (op_eqD hr.units) (pv 0) (pe_tup pa_nil) (nomark _)) (pe_one (pe_and (pe_cmpR op_le (pe_fn Fcompare (hr.mono (by decide)) (pa_cons (pe_ix ix_tup (pv 0) pe_int (fun _ _ => rfl)) (pa_cons (pv 1) pa_nil))) pe_int (nomark _)) (pe_one (pe_cmpR op_le (pe_fn Fcompare (hr.mono (by decide)) (pa_cons (pe_ix ix_tup (pv 0) pe_int (fun _ _ => rfl)) (pa_cons (pv 2) pa_nil))) pe_int (nomark _))))))))), ?_⟩
    show (_ : TS) _ [some _, some _, some _] _
    try dsimp only [cxOf, Cx.nox]
    walk_at "run"
    refine ⟨v, man, rfl, hv, fun p e => (ok p e).1, ?_⟩
    walk_at "run"
    rename_i np hnp
    have e0 : Ext [] H (upd H np (.tup [])) := Ext.refl.new hnp
    refine eq_man (hv.x0 e0) tupS ?_
    walk_at "run"
    cases man with
    | none =>
      refine r_true rfl ?_
      exact k _ e0
    | some p =>
      obtain ⟨o, ol, oc⟩ := ok p rfl
      obtain ⟨a, v1, v2, rfl, h, a1, a2⟩ := hv.x0 e0
      refine r_false rfl ?_
      walk_at "run"
      refine ⟨v1, u, p.1, l, rfl, a1, hu.x0 e0, o.z1, zl, ?_⟩
      walk_at "run"
      refine r_true (cmp_le ol) ?_
      walk_at "run"
      refine ⟨v2, y, p.2, c, rfl, a2, hy.x0 e0, o.z2, zc, ?_⟩
      walk_at "run"
      rw [cmp_le oc]
      exact k _ e0
end
end Yk

set_option maxHeartbeats 8000000
namespace Yk
open PySem PySem.Spec PyProof.Rows L2

local macro_rules | `(tactic| walk_at "st") => `(tactic| first
  | with_reducible refine' r_tAt ?_
  | ((with_reducible refine' r_fld ?h1 ?h2 ?h3); (case h1 => first | assumption | exact upd_same); (case h2 => first | walk_at "lk" | rfl))
  | with_reducible refine' r_sAt ?_
  | ((with_reducible refine' r_putU ?h1 ?h2); (case h1 => (repeat refine putF_lt ?_); decide))
  | ((with_reducible refine' r_put ?h1 ?h2 ?h3); (case h1 => first | assumption | exact upd_same); (case h2 => (repeat refine putF_lt ?_); decide))
  | with_reducible refine' r_tMt ?_
  | ((with_reducible refine' r_met ?h1 ?h2 ?h3); (case h1 => first | assumption | exact upd_same); (case h2 => first | walk_at "lk" | rfl))
  | with_reducible refine' r_tCr ?_
  | with_reducible refine' r_tCrK ?_
  | with_reducible refine' r_chain ?_)
/-! Routes. -/
theorem tupO {K : PySem.W.Frag} {H H1 : Hp} {C a dx t : Addr} {fs : List (Str × V)} {xs : List V} (e : Ext [a] H H1) (ha : H a = some (.ins C dx fs)) (h : SqT K H t xs) : SqT K H1 t xs := by
  have ne : ∀ o, H t = some o → (∀ C dx fs, o ≠ .ins C dx fs) → t ∉ [a] := fun o ho hn z => by
    rw [List.mem_singleton.mp z, ha] at ho
    exact hn _ _ _ (Option.some.inj ho).symm
  rcases h with (h | ⟨o, h⟩) | h
  · exact .inl (.inl (e _ _ h (ne _ h fun _ _ _ z => nomatch z)))
  · exact .inl (.inr ⟨o, e _ _ h (ne _ h fun _ _ _ z => nomatch z)⟩)
  · exact .inr h
theorem Am.o {K : PySem.W.Frag} {H H1 : Hp} {C a dx : Addr} {fs : List (Str × V)} {v : V} {q : Rat} (e : Ext [a] H H1) (ha : H a = some (.ins C dx fs)) (h : Am K H v q) : Am K H1 v q := by
  obtain ⟨t, rfl, h⟩ := h
  exact ⟨t, rfl, tupO e ha h⟩
structure RouteOk (rs : List Str) : Prop where
  l1 : 1 ≤ rs.length
  l5 : rs.length ≤ 5
  nd : rs.Nodup
  nm : ∀ s ∈ rs, s.length ≤ 6 ∧ nameB s = true
theorem r_lenSetQ {K : PySem.W.Frag} {ta : TE} {σ : L2.St} {H : Hp} {Q : VK} (h : ta σ H fun x H1 => ∃ (l : Addr) (xs : List Str), x = .ref l ∧ SqQ K H1 l (xs.map V.str) ∧ xs.Nodup ∧ xs.length ≤ 4000 ∧ Q (.int xs.length) H1) : tLenSetQ K ta σ H Q := h
section
variable {P : Program} {w : World} {K : PySem.W.Frag} {mg : Str → Option Value} {base : Heap} {f : Addr} {fd : FuncData}
def spRoute (K : PySem.W.Frag) : Sp := fun vs H Q _ => ∃ (a : Addr) (rs : List Str), vs = [.ref a] ∧ SqQ K H a (rs.map V.str) ∧ RouteOk rs ∧ ∀ H', Ext [] H H' → Q (.bl true) H'
abbrev s_is_route : Stmt := top 44
theorem c_is_route : FnScope ["value", "link"] ["value"] (defScope s_is_route) := ⟨rfl, rfl, rfl, by decide +kernel, rfl, by decide +kernel, by decide +kernel⟩
theorem f_is_route (F : FunD K "_is_route" "_is_route" (defArgs s_is_route) (defBody s_is_route) (defScope s_is_route) [] [] f fd) (hm : mg "_is_route" = some (.ref f)) (T : Bt mg) (Tset : mg "set" = none) (LR : ∃ t, mg "LONGEST_ROUTE" = some (.int 5 t)) (Fis_name : Fn P w K mg base 1 "is_name" spIsName) : Fn P w K mg base 2 "_is_route" (spRoute K) := by
  refine fn_def F hm c_is_route (fun vs H Q E h => ?_) (fun _ _ _ _ _ _ us hl => match us, hl with | [_], _ => rfl) (fun cdv A outer s H vs Q E hr h => ?_)
  · obtain ⟨a, rs, rfl, _⟩ := h
    rfl
  · obtain ⟨a, rs, rfl, ha, ok, k⟩ := h
    have nd := c_is_route.nd
    obtain ⟨tr, mlr⟩ := LR
    refine ⟨_, (pss_cons (ps_if (PW.pt (pw_or (pt_not (pt_val (pe_callB call_isiT (by rfl) T.isinstance (by decide +kernel) (pa_cons (pv 0) (pa_cons (pe_tup (pa_cons (pe_bltn (v := .ty "list") (by rfl) T.list (by decide +kernel) rfl) (pa_cons (pe_bltn (v := .ty "tuple") (by rfl) T.tuple (by decide +kernel) rfl) pa_nil))) pa_nil))))) (pw_or1 (pt_not (pt_chain op_le op_le pe_int (pe_callB cr_len (by rfl) T.len (by decide +kernel) (pa_cons (pv 0) pa_nil)) (pe_glob (v := .int 5) rfl mlr ⟨_, rfl⟩))))))
        (pss_one (ps_ret pe_bl))
        pss_nil)
      (pss_one (ps_ret (pe_and (pe_callB (cr_all rfl) (by rfl) T.all (by decide +kernel) (pa_cons (pe_lc (own := [("link", 1)]) (g := gName 1) rfl nd (pi_seq (pv 0)) (blkOk_by (N := ["value", "link"]) (sc := defScope s_is_route) (by decide +kernel)) (fun _ _ _ _ _ => pg_name (i := 1) nd rfl (Or.inl rfl)) (fun _ _ _ _ _ => pts_nil) (fun _ _ _ _ _ => (pe_fn Fis_name (hr.mono (by decide)) (pa_cons (pv 1) pa_nil)))) pa_nil)) (pe_one (pe_cmpR op_eq (pe_lenSetQ rfl T.len Tset (pv 0)) (pe_callB cr_len (by rfl) T.len (by decide +kernel) (pa_cons (pv 0) pa_nil)) (nomark _))))))), ?_⟩
    show (_ : TS) _ [some _, none] _
    try dsimp only [cxOf, Cx.nox]
    walk_at "run"
    rename_i np hnp
    have e0 : Ext [] H (upd H np (.tup [.ty "list", .ty "tuple"])) := Ext.refl.new hnp
    have hl1 := ok.l1
    have hl5 := ok.l5
    refine r_isq upd_same (sqq0 e0 ha) ?_
    walk_at "run"
    refine r_len (sqq0 e0 ha) ?_
    walk_at "run"
    refine r_true (decide_eq_true (by rw [List.length_map]; omega)) ?_
    walk_at "run"
    rw [decide_eq_true (by rw [List.length_map]; omega)]
    walk_at "run"
    refine r_lcQ rfl ha (kp0 e0) fun D hD => ⟨fun i H1 => ∃ m : Nat, m = i ∧ H1 D = some (.lst ((List.replicate m true).map V.bl)) ∧ Ext [] H H1, ?_, ?_, ?_, ?_⟩
    · exact ⟨0, rfl, upd_same, e0.new hD⟩
    · rintro j H2 ⟨m, _, _, e⟩
      exact kp0 e
    · rintro j y H1 hy ⟨m, rfl, hacc, e1⟩
      rw [List.getElem?_map] at hy
      obtain ⟨z, hz, rfl⟩ := Option.map_eq_some_iff.mp hy
      obtain ⟨z1, z2⟩ := ok.nm z (List.mem_of_getElem? hz)
      have hj := (List.getElem?_eq_some_iff.mp hz).1
      walk_at "go"
      refine ⟨rfl, ?_⟩
      walk_at "go"
      refine ⟨z, rfl, z1, ?_⟩
      rw [z2]
      refine ⟨_, hacc, Nat.lt_of_le_of_lt (by rw [List.length_map, List.length_replicate]; omega : _ ≤ 4000) (by decide), m + 1, rfl, ?_, e1.own ?_⟩
      · rw [upd_same, List.replicate_succ', List.map_append]
        rfl
      · exact e0.free hD
    · rintro H1 ⟨m, rfl, hacc, e1⟩
      walk_at "go"
      refine r_all (bs := List.replicate (rs.map V.str).length true) (.inl (.inl hacc)) ?_
      rw [show (List.replicate (rs.map V.str).length true).all id = true by simp]
      walk_at "run"
      refine r_lenSetQ ?_
      walk_at "run"
      refine ⟨a, rs, rfl, sqq0 e1 ha, ok.nd, by omega, ?_⟩
      walk_at "run"
      refine r_len (sqq0 e1 ha) ?_
      walk_at "run"
      rw [List.length_map, decide_eq_true rfl]
      exact k _ e1
def spChPlace (K : PySem.W.Frag) : Sp := fun vs H Q _ => ∃ (n : Str) (a b : Addr) (rs : List Str) (xs : List V) (qs : List Rat), vs = [.str n, .ref a, .ref b] ∧ n.length ≤ 6 ∧ nameB n = true ∧ SqQ K H a (rs.map V.str) ∧ RouteOk rs ∧ SqQ K H b xs ∧ Ams K H xs qs ∧ (∀ q ∈ qs, BufQ q) ∧ qs.length = rs.length ∧ ∀ H', Ext [] H H' → Q .non H'
abbrev s_check_place : Stmt := top 43
theorem c_check_place : FnScope ["name", "route", "buffers"] ["name", "route", "buffers"] (defScope s_check_place) := ⟨rfl, rfl, rfl, by decide +kernel, rfl, by decide +kernel, by decide +kernel⟩
theorem f_check_place (F : FunD K "_check_place" "_check_place" (defArgs s_check_place) (defBody s_check_place) (defScope s_check_place) [] [] f fd) (hm : mg "_check_place" = some (.ref f)) (T : Bt mg) (Fis_name : Fn P w K mg base 1 "is_name" spIsName) (F_is_route : Fn P w K mg base 2 "_is_route" (spRoute K)) (F_are_buffers : Fn P w K mg base 4 "_are_buffers" (spBufs K)) : Fn P w K mg base 5 "_check_place" (spChPlace K) := by
  refine fn_def F hm c_check_place (fun vs H Q E h => ?_) (fun _ _ _ _ _ _ us hl => match us, hl with | [_, _, _], _ => rfl) (fun cdv A outer s H vs Q E hr h => ?_)
  · obtain ⟨n, a, b, rs, xs, qs, rfl, _⟩ := h
    rfl
  · obtain ⟨n, a, b, rs, xs, qs, rfl, n6, nm, ha, ok, hb, hq, hqs, hl, k⟩ := h
    have nd := c_check_place.nd
    refine ⟨_, (pss_cons (ps_if (pt_not (pt_val (pe_fn Fis_name (hr.mono (by decide)) (pa_cons (pv 0) pa_nil))))
        (pss_one ps_never)
        pss_nil)
      (pss_cons (ps_if (pt_not (pt_val (pe_fn F_is_route (hr.mono (by decide)) (pa_cons (pv 1) pa_nil))))
        (pss_one ps_never)
        pss_nil)
      (pss_one (ps_if (pt_not (pt_val (pe_fn F_are_buffers (hr.mono (by decide)) (pa_cons (pv 2) (pa_cons (pe_callB cr_len (by rfl) T.len (by decide +kernel) (pa_cons (pv 1) pa_nil)) pa_nil)))))
        (pss_one ps_never)
        pss_nil)))), ?_⟩
    show (_ : TS) _ [some _, some _, some _] _
    try dsimp only [cxOf, Cx.nox]
    have hl5 := ok.l5
    walk_at "run"
    refine ⟨n, rfl, n6, ?_⟩
    rw [nm]
    walk_at "run"
    refine ⟨a, rs, rfl, ha, ok, fun H1 e1 => ?_⟩
    walk_at "run"
    refine r_len (sqq0 e1 ha) ?_
    walk_at "run"
    refine ⟨b, xs, qs, _, rfl, sqq0 e1 hb, hq.x0 e1, hqs, ?_, ?_, fun H2 e2 => ?_⟩
    · rw [List.length_map, hq.1, hl]
    · rw [List.length_map]
      omega
    · walk_at "run"
      exact k _ (e1.trans e2)
end
end Yk

set_option maxHeartbeats 8000000
namespace Yk
open PySem PySem.Spec PyProof.Rows L2

local macro_rules | `(tactic| walk_at "st") => `(tactic| first
  | with_reducible refine' r_tAt ?_
  | ((with_reducible refine' r_fld ?h1 ?h2 ?h3); (case h1 => first | assumption | exact upd_same); (case h2 => first | walk_at "lk" | rfl))
  | with_reducible refine' r_sAt ?_
  | ((with_reducible refine' r_putU ?h1 ?h2); (case h1 => (repeat refine putF_lt ?_); decide))
  | ((with_reducible refine' r_put ?h1 ?h2 ?h3); (case h1 => first | assumption | exact upd_same); (case h2 => (repeat refine putF_lt ?_); decide))
  | with_reducible refine' r_tMt ?_
  | ((with_reducible refine' r_met ?h1 ?h2 ?h3); (case h1 => first | assumption | exact upd_same); (case h2 => first | walk_at "lk" | rfl))
  | with_reducible refine' r_tCr ?_
  | with_reducible refine' r_tCrK ?_
  | with_reducible refine' r_chain ?_)
/-! Flows are made. -/
theorem r_tupleQ {K : PySem.W.Frag} {H : Hp} {Q : VK} {p : Addr} {ys : List V} (h : SqQ K H p ys) (k : ∀ t H1, Ext [] H H1 → SqT K H1 t ys → Q (.ref t) H1) : rTs K [.ref p] H Q :=
  h.elim (fun h => ⟨p, ys, rfl, .inl ⟨h, fun l hl => k l _ (Ext.refl.new hl) tupS⟩⟩) (fun h => ⟨p, ys, rfl, .inr ⟨h, k p H Ext.refl h⟩⟩)
theorem sqqO {K : PySem.W.Frag} {H H1 : Hp} {C a dx t : Addr} {fs : List (Str × V)} {xs : List V} (e : Ext [a] H H1) (ha : H a = some (.ins C dx fs)) (h : SqQ K H t xs) : SqQ K H1 t xs := by
  rcases h with h | h
  · refine .inl ?_
    have ne : ∀ o, H t = some o → (∀ C dx fs, o ≠ .ins C dx fs) → t ∉ [a] := fun o ho hn z => by
      rw [List.mem_singleton.mp z, ha] at ho
      exact hn _ _ _ (Option.some.inj ho).symm
    rcases h with (h | ⟨o, h⟩) | h
    · exact .inl (.inl (e _ _ h (ne _ h fun _ _ _ z => nomatch z)))
    · exact .inl (.inr ⟨o, e _ _ h (ne _ h fun _ _ _ z => nomatch z)⟩)
    · exact .inr h
  · exact .inr (tupO e ha h)
theorem Ams.o {K : PySem.W.Frag} {H H1 : Hp} {C a dx : Addr} {fs : List (Str × V)} {vs : List V} {qs : List Rat} (e : Ext [a] H H1) (ha : H a = some (.ins C dx fs)) (h : Ams K H vs qs) : Ams K H1 vs qs := ⟨h.1, fun i v q a b => (h.2 i v q a b).o e ha⟩
theorem ManIs.o {K : PySem.W.Frag} {H H1 : Hp} {C a dx : Addr} {fs : List (Str × V)} {v : V} {man : Option (Rat × Rat)} (e : Ext [a] H H1) (ha : H a = some (.ins C dx fs)) (h : ManIs K H v man) : ManIs K H1 v man := by
  cases man with
  | none => obtain ⟨t, rfl, h⟩ := h; exact ⟨t, rfl, tupO e ha h⟩
  | some p => obtain ⟨t, v1, v2, rfl, h, a1, a2⟩ := h; exact ⟨t, v1, v2, rfl, tupO e ha h, a1.o e ha, a2.o e ha⟩
theorem SizeIs.o {K : PySem.W.Frag} {H H1 : Hp} {C a dx : Addr} {fs : List (Str × V)} {v : V} {z : SizeD} (e : Ext [a] H H1) (ha : H a = some (.ins C dx fs)) (h : SizeIs K H v z) : SizeIs K H1 v z := by
  cases z with
  | no => exact h
  | win q => exact ⟨h.1.o e ha, h.2⟩
  | tries n => exact h
theorem SizeIs.x0 {K : PySem.W.Frag} {H H1 : Hp} {v : V} {z : SizeD} (e : Ext [] H H1) (h : SizeIs K H v z) : SizeIs K H1 v z := by
  cases z with
  | no => exact h
  | win q => exact ⟨h.1.x0 e, h.2⟩
  | tries n => exact h
structure FlowD where
  n : Str
  rs : List Str
  bs : List Rat
  d : Str
  z : SizeD
  w : Int
  l : Rat
  c : Rat
  g : Rat
  y : Int
  man : Option (Rat × Rat)
  b : Bool
structure FlowOk (F : FlowD) : Prop where
  n6 : F.n.length ≤ 6
  nm : nameB F.n = true
  rt : RouteOk F.rs
  bl : F.bs.length = F.rs.length
  bf : ∀ q ∈ F.bs, BufQ q
  kd : kindOk F.d F.z
  w1 : 1 ≤ F.w
  w2 : F.w ≤ 12
  sl : SmQ F.l
  sc : SmQ F.c
  sg : SmQ F.g
  lc : F.l ≤ F.c
  cg : F.c ≤ F.g
  y1 : 1 ≤ F.y
  y2 : F.y ≤ 20
  mn : ∀ p, F.man = some p → PairOk p ∧ p.1 ≤ F.l ∧ p.2 ≤ F.c
def FlowFs (n : Str) (vr vb : V) (d : Str) (vz : V) (w : Int) (vl vc vg : V) (y : Int) (vm : V) (b : Bool) (k : Int) : List (Str × V) :=
  [("name", .str n), ("route", vr), ("buffers", vb), ("kind", .str d), ("size", vz), ("weight", .int w), ("least", vl), ("cap", vc), ("door", vg), ("way", .int y), ("manner", vm), ("strange", .bl b), ("last", .int k)]
section
variable {P : Program} {w : World} {K : PySem.W.Frag} {mg : Str → Option Value} {base : Heap} {f : Addr} {fd : FuncData} {kws : List (Str × V)}
def spFlowInit (cF : Addr) (K : PySem.W.Frag) : Sp := fun vs H Q _ => ∃ (a dx ra ba : Addr) (xs : List V) (vz vl vc vg vm : V) (F : FlowD), vs = [.ref a, .str F.n, .ref ra, .ref ba, .str F.d, vz, .int F.w, vl, vc, vg, .int F.y, vm, .bl F.b] ∧ H a = some (.ins cF dx []) ∧ FlowOk F ∧
  SqQ K H ra (F.rs.map V.str) ∧ SqQ K H ba xs ∧ Ams K H xs F.bs ∧ SizeIs K H vz F.z ∧ Am K H vl F.l ∧ Am K H vc F.c ∧ Am K H vg F.g ∧ ManIs K H vm F.man ∧
  ∀ (H' : Hp) (t1 t2 : Addr), Ext [a] H H' → H' a = some (.ins cF dx (FlowFs F.n (.ref t1) (.ref t2) F.d vz F.w vl vc vg F.y vm F.b (F.rs.length : Int))) → SqT K H' t1 (F.rs.map V.str) → SqT K H' t2 xs → Q .non H'
abbrev s_Flow___init__ : Stmt := inClass (top 42) 0
theorem c_Flow___init__ : FnScope ["self", "name", "route", "buffers", "kind", "size", "weight", "least", "cap", "door", "way", "manner", "strange"] ["self", "name", "route", "buffers", "kind", "size", "weight", "least", "cap", "door", "way", "manner", "strange"] (defScope s_Flow___init__) := ⟨rfl, rfl, rfl, by decide +kernel, rfl, by decide +kernel, by decide +kernel⟩
theorem f_Flow___init__ (F : FunD K "__init__" "Flow.__init__" (defArgs s_Flow___init__) (defBody s_Flow___init__) (defScope s_Flow___init__) [] kws f fd) {cF : Addr} (T : Bt mg) (LF : ∃ t, mg "LONGEST_WAY" = some (.int 20 t)) (TFlow : Ct K mg "Flow" cF ["name", "route", "buffers", "kind", "size", "weight", "least", "cap", "door", "way", "manner", "strange", "last"]) (F_check_place : Fn P w K mg base 5 "_check_place" (spChPlace K)) (F_check_kind : Fn P w K mg base 5 "_check_kind" (spChKind K)) (F_check_promise : Fn P w K mg base 4 "_check_promise" (spChProm K)) (Fis_small : Fn P w K mg base 3 "is_small" (spSmall K)) (Fcompare : Fn P w K mg base 1 "compare" (spCompare K)) (Fis_number_within : Fn P w K mg base 2 "is_number_within" spWithin) (F_is_manner_within : Fn P w K mg base 4 "_is_manner_within" (spManIn K)) : FnOk P w K mg base CX0 6 f fd ["self", "name", "route", "buffers", "kind", "size", "weight", "least", "cap", "door", "way", "manner", "strange"] (spFlowInit cF K) := by
  refine ok_meth F c_Flow___init__ (fun vs H Q E h => ?_) (fun cdv A outer s H vs Q E hr h => ?_)
  · obtain ⟨a, dx, ra, ba, xs, vz, vl, vc, vg, vm, F, rfl, _⟩ := h
    rfl
  · obtain ⟨a, dx, ra, ba, xs, vz, vl, vc, vg, vm, F, rfl, ha, ok, hr1, hb, hq, hz, hl, hc, hg, hm1, k⟩ := h
    have nd := c_Flow___init__.nd
    obtain ⟨tf, mlf⟩ := LF
    refine ⟨_, (pss_cons (ps_expr (pe_fn F_check_place (hr.mono (by decide)) (pa_cons (pv 1) (pa_cons (pv 2) (pa_cons (pv 3) pa_nil)))))
      (pss_cons (ps_expr (pe_fn F_check_kind (hr.mono (by decide)) (pa_cons (pv 4) (pa_cons (pv 5) pa_nil))))
      (pss_cons (ps_expr (pe_fn F_check_promise (hr.mono (by decide)) (pa_cons (pv 6) (pa_cons (pv 7) (pa_cons (pv 8) pa_nil)))))
      (pss_cons (ps_if (pt_cmpR op_isN (pv 9) pe_non (nomark _))
        (pss_one (ps_set (i := 9) nd rfl (by first | exact Or.inl rfl | exact Or.inr rfl) (pv 8)))
        pss_nil)
      (pss_cons (ps_if (PW.pt (pw_or (pt_not (pt_val (pe_fn Fis_small (hr.mono (by decide)) (pa_cons (pv 9) pa_nil)))) (pw_or1 (pt_cmpR op_gt (pe_fn Fcompare (hr.mono (by decide)) (pa_cons (pv 8) (pa_cons (pv 9) pa_nil))) pe_int (nomark _)))))
        (pss_one ps_never)
        pss_nil)
      (pss_cons (ps_if (pt_not (pt_val (pe_fn Fis_number_within (hr.mono (by decide)) (pa_cons (pv 10) (pa_cons pe_int (pa_cons (pe_glob (v := .int 20) rfl mlf ⟨_, rfl⟩) pa_nil))))))
        (pss_one ps_never)
        pss_nil)
      (pss_cons (ps_if (pt_cmpR op_isN (pv 11) pe_non (nomark _))
        (pss_one (ps_set (i := 11) nd rfl (by first | exact Or.inl rfl | exact Or.inr rfl) (pe_tup (pa_cons (pv 7) (pa_cons (pv 8) pa_nil)))))
        pss_nil)
      (pss_cons (ps_if (pt_not (pt_val (pe_fn F_is_manner_within (hr.mono (by decide)) (pa_cons (pv 11) (pa_cons (pv 7) (pa_cons (pv 8) pa_nil))))))
        (pss_one ps_never)
        pss_nil)
      (pss_cons (ps_if (pt_not (pt_val (pe_callB call_isi (by rfl) T.isinstance (by decide +kernel) (pa_cons (pv 12) (pa_cons (pe_bltn (v := .ty "bool") (by rfl) T.bool (by decide +kernel) rfl) pa_nil)))))
        (pss_one ps_never)
        pss_nil)
      (pss_cons (ps_at TFlow (by decide +kernel) (pv 0) (pv 1))
      (pss_cons (ps_at TFlow (by decide +kernel) (pv 0) (pe_callTy cr_tuple (by rfl) T.tuple (by decide +kernel) (pa_cons (pv 2) pa_nil)))
      (pss_cons (ps_at TFlow (by decide +kernel) (pv 0) (pe_callTy cr_tuple (by rfl) T.tuple (by decide +kernel) (pa_cons (pv 3) pa_nil)))
      (pss_cons (ps_at TFlow (by decide +kernel) (pv 0) (pv 4))
      (pss_cons (ps_at TFlow (by decide +kernel) (pv 0) (pv 5))
      (pss_cons (ps_at TFlow (by decide +kernel) (pv 0) (pv 6))
      (pss_cons (ps_at TFlow (by decide +kernel) (pv 0) (pv 7))
      (pss_cons (ps_at TFlow (by decide +kernel) (pv 0) (pv 8))
      (pss_cons (ps_at TFlow (by decide +kernel) (pv 0) (pv 9))
      (pss_cons (ps_at TFlow (by decide +kernel) (pv 0) (pv 10))
      (pss_cons (ps_at TFlow (by decide +kernel) (pv 0) (pv 11))
      (pss_cons (ps_at TFlow (by decide +kernel) (pv 0) (pv 12))
      (pss_one (ps_at TFlow (by decide +kernel) (pv 0) (pe_callB cr_len (by rfl) T.len (by decide +kernel) (pa_cons (pe_at TFlow (by decide +kernel) (pv 0)) pa_nil))))))))))))))))))))))))), ?_⟩
    show (_ : TS) _ [some _, some _, some _, some _, some _, some _, some _, some _, some _, some _, some _, some _, some _] _
    try dsimp only [cxOf, Cx.nox]
    have s4 : ∀ {q : Rat}, SmQ q → Sz 4000 q := fun h => h.sz (by decide)
    walk_at "run"
    refine ⟨F.n, ra, ba, F.rs, xs, F.bs, rfl, ok.n6, ok.nm, hr1, ok.rt, hb, hq, ok.bf, ok.bl, fun H1 e1 => ?_⟩
    walk_at "run"
    refine ⟨F.d, vz, F.z, rfl, hz.x0 e1, ok.kd, ?_⟩
    walk_at "run"
    refine ⟨F.w, vl, vc, F.l, F.c, rfl, ok.w1, ok.w2, hl.x0 e1, hc.x0 e1, ok.sl, ok.sc, ok.lc, ?_⟩
    walk_at "run"
    have g1 : decide (vg = V.non) = false := by
      obtain ⟨t, rfl, _⟩ := hg
      exact decide_eq_false fun z => by cases z
    refine r_false g1 ?_
    walk_at "run"
    refine ⟨vg, F.g, rfl, hg.x0 e1, ok.sg, ?_⟩
    walk_at "run"
    refine ⟨vc, vg, F.c, F.g, rfl, hc.x0 e1, hg.x0 e1, s4 ok.sc, s4 ok.sg, ?_⟩
    walk_at "run"
    refine r_false (cmp_ngt ok.cg) ?_
    walk_at "run"
    refine ⟨F.y, 1, 20, rfl, ?_⟩
    rw [decide_eq_true ok.y1, decide_eq_true ok.y2]
    walk_at "run"
    have g2 : decide (vm = V.non) = false := by
      have : ∃ t, vm = .ref t := by
        cases hman : F.man with
        | none => rw [hman] at hm1; obtain ⟨t, rfl, _⟩ := hm1; exact ⟨t, rfl⟩
        | some p => rw [hman] at hm1; obtain ⟨t, _, _, rfl, _⟩ := hm1; exact ⟨t, rfl⟩
      obtain ⟨t, rfl⟩ := this
      exact decide_eq_false fun z => by cases z
    refine r_false g2 ?_
    walk_at "run"
    refine ⟨vm, vl, vc, F.man, F.l, F.c, rfl, hm1.x0 e1, hl.x0 e1, hc.x0 e1, s4 ok.sl, s4 ok.sc, ok.mn, fun H2 e2 => ?_⟩
    have e12 := e1.trans e2
    have h2 : H2 a = some (.ins cF dx []) := e12 _ _ ha fun z => nomatch z
    walk_at "run"
    generalize h3 : upd H2 a _ = H3 at *
    have E3 : Ext [a] H H3 := by rw [← h3]; exact (Ext.of0 e12 : Ext [a] H H2).at_ List.mem_cons_self
    have a3 : H3 a = some (.ins cF dx (putF "name" (V.str F.n) [])) := by rw [← h3]; exact upd_same
    refine r_tupleQ (sqqO E3 ha hr1) fun t1 H4 e4 s4' => ?_
    have E4 : Ext [a] H H4 := E3.trans e4.of0
    have a4 : H4 a = some (.ins cF dx (putF "name" (V.str F.n) [])) := e4 _ _ a3 fun z => nomatch z
    walk_at "run"
    generalize h5 : upd H4 a _ = H5 at *
    have E5 : Ext [a] H4 H5 := by rw [← h5]; exact (Ext.refl : Ext [a] H4 H4).at_ List.mem_cons_self
    have a5 : H5 a = some (.ins cF dx (putF "route" (V.ref t1) (putF "name" (V.str F.n) []))) := by rw [← h5]; exact upd_same
    have s5 : SqT K H5 t1 (F.rs.map V.str) := tupO E5 a4 s4'
    refine r_tupleQ (sqqO (E4.trans E5) ha hb) fun t2 H6 e6 s6 => ?_
    have E6 : Ext [a] H H6 := (E4.trans E5).trans e6.of0
    have a6 : H6 a = some (.ins cF dx (putF "route" (V.ref t1) (putF "name" (V.str F.n) []))) := e6 _ _ a5 fun z => nomatch z
    walk_at "run"
    refine r_len (.inr (tupO (Ext.refl.at_ List.mem_cons_self) a6 (tup0 e6 s5))) ?_
    walk_at "run"
    rw [List.length_map]
    have e : ∀ n r u d z w l c g y m b k, putF "last" (.int k) (putF "strange" (.bl b) (putF "manner" m (putF "way" (.int y) (putF "door" g (putF "cap" c (putF "least" l (putF "weight" (.int w) (putF "size" z (putF "kind" (.str d) (putF "buffers" u (putF "route" r (putF "name" (.str n) [])))))))))))) = FlowFs n r u d z w l c g y m b k := by
      intros
      kernel_rfl
    rw [e]
    exact k _ t1 t2 (E6.at_ List.mem_cons_self) upd_same (tupO (Ext.refl.at_ List.mem_cons_self) a6 (tup0 e6 s5)) (tupO (Ext.refl.at_ List.mem_cons_self) a6 s6)
end
end Yk

set_option maxHeartbeats 8000000
namespace Yk
open PySem PySem.Spec PyProof.Rows L2

local macro_rules | `(tactic| walk_at "st") => `(tactic| first
  | with_reducible refine' r_tAt ?_
  | ((with_reducible refine' r_fld ?h1 ?h2 ?h3); (case h1 => first | assumption | exact upd_same); (case h2 => first | walk_at "lk" | rfl))
  | with_reducible refine' r_sAt ?_
  | ((with_reducible refine' r_putU ?h1 ?h2); (case h1 => (repeat refine putF_lt ?_); decide))
  | ((with_reducible refine' r_put ?h1 ?h2 ?h3); (case h1 => first | assumption | exact upd_same); (case h2 => (repeat refine putF_lt ?_); decide))
  | with_reducible refine' r_tMt ?_
  | ((with_reducible refine' r_met ?h1 ?h2 ?h3); (case h1 => first | assumption | exact upd_same); (case h2 => first | walk_at "lk" | rfl))
  | with_reducible refine' r_tCr ?_
  | with_reducible refine' r_tCrK ?_
  | with_reducible refine' r_chain ?_)
/-! Flows as data. -/
def FlowAt (cF : Addr) (K : PySem.W.Frag) (H : Hp) (v : V) (F : FlowD) : Prop := ∃ (a dx t1 t2 : Addr) (xs : List V) (vz vl vc vg vm : V), v = .ref a ∧ H a = some (.ins cF dx (FlowFs F.n (.ref t1) (.ref t2) F.d vz F.w vl vc vg F.y vm F.b (F.rs.length : Int))) ∧
  SqT K H t1 (F.rs.map V.str) ∧ SqT K H t2 xs ∧ Ams K H xs F.bs ∧ SizeIs K H vz F.z ∧ Am K H vl F.l ∧ Am K H vc F.c ∧ Am K H vg F.g ∧ ManIs K H vm F.man
theorem FlowAt.x0 {cF : Addr} {K : PySem.W.Frag} {H H1 : Hp} {v : V} {F : FlowD} (e : Ext [] H H1) (h : FlowAt cF K H v F) : FlowAt cF K H1 v F := by
  obtain ⟨a, dx, t1, t2, xs, vz, vl, vc, vg, vm, rfl, h, h1, h2, h3, h4, h5, h6, h7, h8⟩ := h
  exact ⟨a, dx, t1, t2, xs, vz, vl, vc, vg, vm, rfl, e _ _ h (fun z => nomatch z), tup0 e h1, tup0 e h2, h3.x0 e, h4.x0 e, h5.x0 e, h6.x0 e, h7.x0 e, h8.x0 e⟩
theorem LinkAt.o {cL : Addr} {K : PySem.W.Frag} {H H1 : Hp} {C a dx : Addr} {fs : List (Str × V)} {v : V} {L : LinkD} (e : Ext [a] H H1) (ha : H a = some (.ins C dx fs)) (hc : C ≠ cL) (h : LinkAt cL K H v L) : LinkAt cL K H1 v L := by
  obtain ⟨b, dy, vc, vl, rfl, h, h1, h2⟩ := h
  refine ⟨b, dy, vc, vl, rfl, e _ _ h fun z => ?_, h1.o e ha, h2.o e ha⟩
  rw [List.mem_singleton.mp z, ha] at h
  cases h
  exact hc rfl
theorem FlowAt.o {cF : Addr} {K : PySem.W.Frag} {H H1 : Hp} {C a dx : Addr} {fs : List (Str × V)} {v : V} {F : FlowD} (e : Ext [a] H H1) (ha : H a = some (.ins C dx fs)) (hc : C ≠ cF) (h : FlowAt cF K H v F) : FlowAt cF K H1 v F := by
  obtain ⟨b, dy, t1, t2, xs, vz, vl, vc, vg, vm, rfl, h, h1, h2, h3, h4, h5, h6, h7, h8⟩ := h
  refine ⟨b, dy, t1, t2, xs, vz, vl, vc, vg, vm, rfl, e _ _ h fun z => ?_, tupO e ha h1, tupO e ha h2, h3.o e ha, h4.o e ha, h5.o e ha, h6.o e ha, h7.o e ha, h8.o e ha⟩
  rw [List.mem_singleton.mp z, ha] at h
  cases h
  exact hc rfl
section
variable {n d : Str} {vr vb vz vl vc vg vm : V} {w y k : Int} {b : Bool}
theorem lk_Flow_name : List.lookup ("name" : Str) (FlowFs n vr vb d vz w vl vc vg y vm b k) = some (V.str n) := by kernel_rfl
theorem lk_Flow_route : List.lookup ("route" : Str) (FlowFs n vr vb d vz w vl vc vg y vm b k) = some vr := by kernel_rfl
theorem lk_Flow_buffers : List.lookup ("buffers" : Str) (FlowFs n vr vb d vz w vl vc vg y vm b k) = some vb := by kernel_rfl
theorem lk_Flow_kind : List.lookup ("kind" : Str) (FlowFs n vr vb d vz w vl vc vg y vm b k) = some (V.str d) := by kernel_rfl
theorem lk_Flow_size : List.lookup ("size" : Str) (FlowFs n vr vb d vz w vl vc vg y vm b k) = some vz := by kernel_rfl
theorem lk_Flow_weight : List.lookup ("weight" : Str) (FlowFs n vr vb d vz w vl vc vg y vm b k) = some (V.int w) := by kernel_rfl
theorem lk_Flow_least : List.lookup ("least" : Str) (FlowFs n vr vb d vz w vl vc vg y vm b k) = some vl := by kernel_rfl
theorem lk_Flow_cap : List.lookup ("cap" : Str) (FlowFs n vr vb d vz w vl vc vg y vm b k) = some vc := by kernel_rfl
theorem lk_Flow_door : List.lookup ("door" : Str) (FlowFs n vr vb d vz w vl vc vg y vm b k) = some vg := by kernel_rfl
theorem lk_Flow_way : List.lookup ("way" : Str) (FlowFs n vr vb d vz w vl vc vg y vm b k) = some (V.int y) := by kernel_rfl
theorem lk_Flow_manner : List.lookup ("manner" : Str) (FlowFs n vr vb d vz w vl vc vg y vm b k) = some vm := by kernel_rfl
theorem lk_Flow_strange : List.lookup ("strange" : Str) (FlowFs n vr vb d vz w vl vc vg y vm b k) = some (V.bl b) := by kernel_rfl
theorem lk_Flow_last : List.lookup ("last" : Str) (FlowFs n vr vb d vz w vl vc vg y vm b k) = some (V.int k) := by kernel_rfl
theorem lk_Flow_is_gone : List.lookup ("is_gone" : Str) (FlowFs n vr vb d vz w vl vc vg y vm b k) = none := by kernel_rfl
theorem lk_Flow_with_manner : List.lookup ("with_manner" : Str) (FlowFs n vr vb d vz w vl vc vg y vm b k) = none := by kernel_rfl
theorem lk_Flow__changed : List.lookup ("_changed" : Str) (FlowFs n vr vb d vz w vl vc vg y vm b k) = none := by kernel_rfl
end
local macro_rules | `(tactic| walk_at "lk") => `(tactic| first | with_reducible exact lk_Flow_name | with_reducible exact lk_Flow_route | with_reducible exact lk_Flow_buffers | with_reducible exact lk_Flow_kind | with_reducible exact lk_Flow_size | with_reducible exact lk_Flow_weight | with_reducible exact lk_Flow_least | with_reducible exact lk_Flow_cap | with_reducible exact lk_Flow_door | with_reducible exact lk_Flow_way | with_reducible exact lk_Flow_manner | with_reducible exact lk_Flow_strange | with_reducible exact lk_Flow_last | with_reducible exact lk_Flow_is_gone | with_reducible exact lk_Flow_with_manner | with_reducible exact lk_Flow__changed)
section
variable {P : Program} {w : World} {K : PySem.W.Frag} {mg : Str → Option Value} {base : Heap} {f : Addr} {fd : FuncData}
def spGone (cF : Addr) (K : PySem.W.Frag) : Sp := fun vs H Q _ => ∃ (v : V) (F : FlowD), vs = [v] ∧ FlowAt cF K H v F ∧ ∀ H', Ext [] H H' → Q (.bl F.man.isNone) H'
def spLawFlow (cF : Addr) (K : PySem.W.Frag) : Sp := fun vs H Q _ => ∃ (t ra ba : Addr) (xs : List V) (vz vl vc vg vm : V) (F : FlowD), vs = [.ref t] ∧ SqT K H t [.str F.n, .ref ra, .ref ba, .str F.d, vz, .int F.w, vl, vc, vg, .int F.y, vm, .bl F.b] ∧ FlowOk F ∧
  SqQ K H ra (F.rs.map V.str) ∧ SqQ K H ba xs ∧ Ams K H xs F.bs ∧ SizeIs K H vz F.z ∧ Am K H vl F.l ∧ Am K H vc F.c ∧ Am K H vg F.g ∧ ManIs K H vm F.man ∧ ∀ v H', Ext [] H H' → FlowAt cF K H' v F → Q v H'
end
end Yk

set_option maxHeartbeats 1000000
/-! {k: v}, k a tuple of ints and texts. -/
namespace Yk
open PySem PySem.Spec PyProof.Rows L2
def tDisp1T (tk tv : TE) : TE := fun σ H Q => ∀ p, H p = none → tk σ (upd H p (.dT [])) fun x H1 => tv σ H1 fun y H2 => ∃ (b : Addr) (k : List Key), x = .ref b ∧ H2 b = some (.tup (k.map kV)) ∧ H2 p = some (.dT []) ∧ Q (.ref p) (upd H2 p (.dT [(k, y)]))
theorem pe_disp1T {X : Cx} {pos : Pos} {ke ve : Expr} {tk tv : TE} (hu : X.A.units + 1 < cLine) (hk : PE X ke tk) (hv : PE X ve tv) : PE X (.Dict [some ke] [ve] pos) (tDisp1T tk tv) := by
  refine ⟨fun pins s σ H Q I q => ?_⟩
  have hn := I.hok.fresh (Nat.le_refl s.heap.objs.size)
  have I1 := I.laid (a := s.heap.objs.size) (o := .dT []) (h' := s.heap.push { cls := .type "dict", data := .dict #[] }) (t' := s.toks) (fun _ _ q => Heap.get?_push_of_some _ q) (Nat.le_refl _) (dt_empty s.heap I.big)
  rw [arm_eval_Dict, zip_pairTrees [some ke] [ve] X.env pos rfl rfl, dictDisplay_pairs (pairTrees [some ke] [ve] X.env pos) (by simp [pairTrees]) (by simp [pairTrees])]
  refine wpAny_bind (wpAny_standAt (wpAny_bind ?_))
  unfold subDict
  refine wpAny_bind (wpAny_alloc ?_)
  refine wpAny_bind (wpAny_holding ?_)
  rw [if_pos (by simp [pairTrees])]
  refine wpAny_bind (pairTrees_cons_walk (thn (hk.run pins _ σ _ _ I1 (q _ hn)) fun u s2 ⟨x, H1, I2, rx, q1⟩ => thn (hv.run pins s2 σ H1 _ I2 q1) fun u2 s3 ⟨y, H2, I3, ry, b, k, ex, eb, ep, q2⟩ => pairTrees_nil_walk ?_))
  subst ex
  obtain rfl : u = Value.ref b := rx
  refine wpAny_holding ?_
  rw [List.forIn_cons]
  obtain ⟨z, hd, xs, rel, dd⟩ := dt_of I3.hok ep
  have hx : xs = [] := by
    have := Paired.length rel
    cases xs with
    | nil => rfl
    | cons a r => cases this
  subst hx
  refine wpAny_bind (wpAny_bind (wpAny_bind (wpAny_dictSet_heap (knd := tupleKind (mixKind X.prog X.w)) (hsz := Nat.zero_le _) (show X.A.units < cLine by omega) (key_of I3.hok eb) dd fun h' dd' hs => wpAny_pure ?_)))
  dsimp only
  rw [List.forIn_nil]
  refine wpAny_pure (wpAny_pure (wpAny_pure (wpAny_pure ?_)))
  refine ⟨.ref s.heap.objs.size, _, ?_, rfl, q2⟩
  obtain ⟨q, es, ep2, hq, h2, h3, h4, _, h5⟩ := dd'
  have rel2 : KT H2 (putK [] k y) (storedH [] k b u2) := KT.put .nil k eb ry
  refine d_write I3 (by rw [ep]; exact True.intro) hs ⟨q, hq⟩ ⟨by rw [sizeLine_eq]; show 1 ≤ 16777216; decide, hd, _, rel2.keeps fun c ys ec => ?_, q, es, ep2, hq, h2, h3, h4, h5⟩
  rw [upd_ne (ne_of ec ep (fun z => nomatch z))]
  exact ec
end Yk
namespace Yk
open PySem PySem.Spec PyProof.Rows L2
/-- == of the class's own objects, where it says True -/
structure Oe (P : Program) (w : World) (K : PySem.W.Frag) (mg : Str → Option Value) (base : Heap) (k : Nat) (C : Addr) (R : Addr → Addr → Hp → Prop) : Prop where
  run : ∃ f fd ps, FnOk P w K mg base CX0 k f fd ps (spEq R) ∧ Meth K C "__eq__" f ∧ Binds K fd ps []
theorem op_own {X : Cx} {k : Nat} {C : Addr} {R : Addr → Addr → Hp → Prop} (F : Oe X.prog X.w X.K X.mg X.base k C R) (hr : Room k X.A) (hx : Passes CX0 X E0 := by exact pass0) : OpR X (compareOp .Eq) (rEqG (DIns C R)) := by
  obtain ⟨f, fd, ps, F, m, hb⟩ := F.run
  exact op_eqG (rcG_ins F m.at_ m.fn hb hx) hr
end Yk

set_option maxHeartbeats 8000000
namespace Yk
open PySem PySem.Spec PyProof.Rows L2

local macro_rules | `(tactic| walk_at "st") => `(tactic| first
  | with_reducible refine' r_tAt ?_
  | ((with_reducible refine' r_fld ?h1 ?h2 ?h3); (case h1 => first | assumption | exact upd_same); (case h2 => first | walk_at "lk" | rfl))
  | with_reducible refine' r_sAt ?_
  | ((with_reducible refine' r_putU ?h1 ?h2); (case h1 => (repeat refine putF_lt ?_); decide))
  | ((with_reducible refine' r_put ?h1 ?h2 ?h3); (case h1 => first | assumption | exact upd_same); (case h2 => (repeat refine putF_lt ?_); decide))
  | with_reducible refine' r_tMt ?_
  | ((with_reducible refine' r_met ?h1 ?h2 ?h3); (case h1 => first | assumption | exact upd_same); (case h2 => first | walk_at "lk" | rfl))
  | with_reducible refine' r_tCr ?_
  | with_reducible refine' r_tCrK ?_
  | with_reducible refine' r_chain ?_)
local macro_rules | `(tactic| walk_at "st") => `(tactic| first
  | with_reducible refine' r_dget ?_
  | with_reducible refine' r_dc ?_
  | with_reducible refine' r_iVals ?_
  | with_reducible refine' r_dnotin ?_
  | with_reducible refine' r_din ?_
  | with_reducible refine' r_iItems ?_
  | with_reducible refine' r_iKeysT ?_
  | with_reducible refine' r_tget1 ?_
  | with_reducible refine' r_tget2 ?_
  | with_reducible refine' r_dput ?_
  | with_reducible refine' r_tPr ?_
  | ((with_reducible refine' r_prp2 ?h1 ?h2); (case h1 => first | assumption | exact upd_same))
  | with_reducible refine' r_par3 ?_
  | ((with_reducible refine' r_dnT ?_); (intro np hnp))
  | ((with_reducible refine' r_dnK ?_); (intro np hnp)))
/-! Names that the law draws. -/
def abcL : List Nat := [97, 98, 99, 100, 101, 102, 103, 104, 105, 106, 107, 108, 109, 110, 111, 112, 113, 114, 115, 116, 117, 118, 119, 120, 121, 122]
def abcS : Str := "abcdefghijklmnopqrstuvwxyz"
theorem abc_is : abcS = ⟨abcL.toArray⟩ := by decide +kernel
structure NmS (s : Str) : Prop where
  l1 : 1 ≤ s.length
  l6 : s.length ≤ 6
  low : ∀ c ∈ s.cps.toList, c ∈ abcL
theorem abc_props : ∀ c ∈ abcL, (decide (c < 128) && Unicode.isAlpha c && Unicode.isLower c && !(Unicode.isUpper c || Unicode.isTitle c)) = true := by decide +kernel
theorem NmS.ok {s : Str} (h : NmS s) : nameB s = true := by
  have p := fun c hc => abc_props c (h.low c hc)
  simp only [Bool.and_eq_true] at p
  unfold nameB
  simp only [Bool.and_eq_true]
  have l1 := h.l1
  refine ⟨⟨⟨decide_eq_true h.l6, ?_⟩, ?_⟩, ?_⟩
  · unfold Txt.isascii
    rw [Array.all_eq_true_iff_forall_mem]
    intro c hc
    exact (p c (by simpa using hc)).1.1.1
  · unfold Txt.isalpha
    rw [Bool.and_eq_true]
    refine ⟨decide_eq_true l1, ?_⟩
    rw [Array.all_eq_true_iff_forall_mem]
    intro c hc
    exact (p c (by simpa using hc)).1.1.2
  · unfold Txt.islower
    rw [Bool.and_eq_true]
    constructor
    · rw [Array.any_eq_true]
      refine ⟨0, l1, (p _ ?_).1.2⟩
      exact Array.mem_toList_iff.mpr (Array.getElem_mem _)
    · rw [Bool.not_eq_true', ← Bool.not_eq_true, Array.any_eq_true]
      rintro ⟨i, hi, e⟩
      have := (p s.cps[i] (Array.mem_toList_iff.mpr (Array.getElem_mem _))).2
      rw [e] at this
      cases this
def ch1 (c : Nat) : Str := ⟨#[c]⟩
theorem abc_index : ∀ c ∈ abcL, (match Builtin.Str.occurrences abcS (ch1 c) 0 abcS.length 1 with | i :: _ => decide (i < 26) | [] => false) = true := by decide +kernel
theorem abc_at {c : Nat} (h : c ∈ abcL) : ∃ i rest, Builtin.Str.occurrences abcS (ch1 c) 0 abcS.length 1 = i :: rest ∧ i < 26 := by
  have := abc_index c h
  split at this
  · rename_i i r e
    exact ⟨i, r, e, of_decide_eq_true this⟩
  · cases this
theorem join_ch : ∀ cs : List Nat, Txt.join "" (cs.map ch1) = ⟨cs.toArray⟩ := by
  intro cs
  rw [TL.join_eq]
  induction cs with
  | nil => rfl
  | cons c r ih =>
    cases r with
    | nil => rfl
    | cons d r =>
      show ch1 c ++ "" ++ Str.join "" ((d :: r).map ch1) = _
      rw [ih]
      show (⟨(#[c] ++ ("" : Str).cps) ++ (d :: r).toArray⟩ : Str) = _
      simp
      rfl

/-- a sign of a text -/
def spOfS (K : PySem.W.Frag) : Sp := fun vs H Q _ => ∃ (b : Bag) (z : Str), vs = [.ref b.a, .str z] ∧ BagAt K H b ∧ 0 < z.length ∧ z.length ≤ 4000 ∧ ∀ c H', c ∈ z.cps.toList → BagAt K H' b → Ext [b.a] H H' → Q (.str (ch1 c)) H'
def orSp (a b : Sp) : Sp := fun vs H Q E => a vs H Q E ∨ b vs H Q E
theorem Fn.or {P : Program} {w : World} {K : PySem.W.Frag} {mg : Str → Option Value} {base : Heap} {k : Nat} {x : Str} {s1 s2 : Sp} (F : Fn P w K mg base k x s1) (G : Fn P w K mg base k x s2) : Fn P w K mg base k x (orSp s1 s2) := by
  obtain ⟨f, hf, kf, F⟩ := F.run
  obtain ⟨g, hg, kg, G⟩ := G.run
  rw [hf] at hg
  cases hg
  exact ⟨f, hf, kf, fun A outer s H us vs Q E hr e0 r h => h.elim (fun h => F A outer s H us vs Q E hr e0 r h) fun h => G A outer s H us vs Q E hr e0 r h⟩
theorem ones : ∀ l : List Nat, (l.map fun _ => 1).sum = l.length
  | [] => rfl
  | _ :: l => by rw [List.map_cons, List.sum_cons, ones l, List.length_cons, Nat.add_comm]
theorem len_tl {z : Str} : z.cps.toList.length = z.length := by rw [Array.length_toList]; rfl
theorem at_str {z : Str} {i : Nat} (h : i < z.length) : ∃ c, c ∈ z.cps.toList ∧ atI z.cps.toList (i : Int) = some c := by
  have h2 : i < z.cps.toList.length := by rw [len_tl]; exact h
  refine ⟨_, List.getElem_mem h2, ?_⟩
  unfold atI ixN
  rw [if_pos (by omega), if_pos (by omega)]
  exact List.getElem?_eq_getElem h2
theorem at_last {z : Str} (h : 1 ≤ z.length) : ∃ c, c ∈ z.cps.toList ∧ atI z.cps.toList (-1) = some c := by
  have h2 : z.cps.toList.length - 1 < z.cps.toList.length := by rw [len_tl]; omega
  refine ⟨_, List.getElem_mem h2, ?_⟩
  unfold atI ixN
  have l : z.cps.toList.length = z.length := len_tl
  rw [if_neg (by decide), if_pos (by omega)]
  simp only [Option.bind_some]
  rw [← List.getElem?_eq_getElem h2]
  congr 1
  omega
theorem of_strN {K : PySem.W.Frag} {H : Hp} {b : Bag} {l : Addr} {ns : List Str} {Q : VK} {E : XK} (hb : BagAt K H b) (hl : SqL K H l (ns.map V.str)) (hne : b.a ≠ l) (h0 : 0 < ns.length) (h4 : ns.length ≤ 4000) (k : ∀ x H', x ∈ ns → BagAt K H' b → Ext [b.a] H H' → Q (.str x) H') : spOf K [.ref b.a, .ref l] H Q E :=
  ⟨b, l, _, rfl, hb, hl, hne, by rw [List.length_map]; exact h0, by rw [List.length_map]; exact h4, fun i x H' hx hb' e => by
    rw [List.getElem?_map] at hx
    cases e2 : ns[i]? with
    | none => rw [e2] at hx; cases hx
    | some z => rw [e2] at hx; cases hx; exact k z H' (List.mem_of_getElem? e2) hb' e⟩
theorem names8 : ∀ s ∈ (["self", "all", "level", "a", "aaaaaa", "z", "end", "manner"] : List Str), (decide (1 ≤ s.length) && (decide (s.length ≤ 6) && s.cps.toList.all fun c => decide (c ∈ abcL))) = true := by decide +kernel
theorem nm8 {s : Str} (h : s ∈ (["self", "all", "level", "a", "aaaaaa", "z", "end", "manner"] : List Str)) : NmS s := by
  have := names8 s h
  simp only [Bool.and_eq_true] at this
  refine ⟨of_decide_eq_true this.1, of_decide_eq_true this.2.1, fun c hc => of_decide_eq_true (List.all_eq_true.mp this.2.2 c hc)⟩
theorem nmCh {cs : List Nat} (h1 : 1 ≤ cs.length) (h6 : cs.length ≤ 6) (h : ∀ c ∈ cs, c ∈ abcL) : NmS ⟨cs.toArray⟩ := ⟨by simpa [Str.length] using h1, by simpa [Str.length] using h6, fun c hc => h c (by simpa using hc)⟩
/-- all but the last sign, another sign -/
theorem nmTurn {s : Str} {c : Nat} (h : NmS s) (hc : c ∈ abcL) : NmS (cutS s none (some (-1)) ++ ch1 c) := by
  have l1 := h.l1
  have l6 := h.l6
  have e : cutS s none (some (-1)) = ⟨(s.cps.toList.take (s.length - 1)).toArray⟩ := by
    unfold cutS
    have e1 : HT.sIx s.length 0 none = 0 := rfl
    have e2 : HT.sIx s.length s.length (some (-1)) = s.length - 1 := by
      unfold HT.sIx
      simp
      try omega
    rw [e1, e2]
    rfl
  have e3 : cutS s none (some (-1)) ++ ch1 c = ⟨(s.cps.toList.take (s.length - 1) ++ [c]).toArray⟩ := by
    rw [e]
    show (⟨(s.cps.toList.take (s.length - 1)).toArray ++ #[c]⟩ : Str) = _
    simp
  rw [e3]
  have lt : s.cps.toList.length = s.length := len_tl
  refine nmCh ?_ ?_ ?_
  · rw [List.length_append]; simp
  · rw [List.length_append, List.length_take, lt]; simp; omega
  · intro d hd
    rcases List.mem_append.mp hd with hd | hd
    · exact h.low d (List.mem_of_mem_take hd)
    · rw [List.mem_singleton.mp hd]; exact hc
theorem r_ixS {z : Str} {i : Int} {c : Nat} {H : Hp} {Q : VK} (h1 : z.length ≤ sizeLine) (h2 : atI z.cps.toList i = some c) (h : Q (.str (ch1 c)) H) : rIxS (.str z) (.int i) H Q := ⟨z, i, c, rfl, rfl, h1, h2, h⟩
section
variable {P : Program} {w : World} {K : PySem.W.Frag} {mg : Str → Option Value} {base : Heap} {f : Addr} {fd : FuncData}
theorem g_law_of (F : FunD K "_law_of" "_law_of" (defArgs s_law_of) (defBody s_law_of) (defScope s_law_of) [] [] f fd) (hm : mg "_law_of" = some (.ref f)) (T : Bt mg) (F_law_draw : Fn P w K mg base 1 "_law_draw" (spDraw K)) : Fn P w K mg base 2 "_law_of" (spOfS K) := by
  refine fn_def F hm c_law_of (fun vs H Q E h => ?_) (fun _ _ _ _ _ _ us hl => match us, hl with | [_, _], _ => rfl) (fun cdv A outer s H vs Q E hr h => ?_)
  · obtain ⟨b, z, rfl, _⟩ := h
    rfl
  · obtain ⟨b, z, rfl, hb, h0, h4, k⟩ := h
    have nd := c_law_of.nd
    refine ⟨_, (pss_one (ps_ret (pe_ix ix_str (pv 1) (pe_fn F_law_draw (hr.mono (by decide)) (pa_cons (pv 0) (pa_cons (pe_callB call_len_str (by rfl) T.len (by decide +kernel) (pa_cons (pv 1) pa_nil)) pa_nil))) (fun _ _ => rfl)))), ?_⟩
    show (_ : TS) _ [some _, some _] _
    try dsimp only [cxOf, Cx.nox]
    have hz : z.length ≤ sizeLine := Nat.le_trans h4 (by decide)
    walk_at "go"
    refine ⟨z, rfl, hz, ?_⟩
    walk_at "go"
    refine ⟨b, _, rfl, by omega, Int.lt_of_le_of_lt (by omega : (z.length : Int) ≤ 4000) (by decide), hb, fun x H' x0 x1 hb' e => ?_⟩
    have hx : x.toNat < z.length := by omega
    have e2 : x = ((x.toNat : Nat) : Int) := by omega
    obtain ⟨c, hc, hat⟩ := at_str hx
    rw [e2]
    exact r_ixS hz hat (k c H' hc hb' e)
def spName (K : PySem.W.Frag) : Sp := fun vs H Q _ => ∃ (b : Bag) (t : Addr) (ts : List Str), vs = [.ref b.a, .ref t] ∧ BagAt K H b ∧ SqL K H t (ts.map V.str) ∧ b.a ≠ t ∧ ∀ s H', NmS s → BagAt K H' b → Ext [b.a] H H' → Q (.str s) H'
abbrev s_law_name : Stmt := top 66
theorem c_law_name : FnScope ["_law_bag_here", "_law_taken", "_law_signs", "_law_called", "_law_k"] ["_law_bag_here", "_law_taken"] (defScope s_law_name) := ⟨rfl, rfl, rfl, by decide +kernel, rfl, by decide +kernel, by decide +kernel⟩
theorem f_law_name (F : FunD K "_law_name" "_law_name" (defArgs s_law_name) (defBody s_law_name) (defScope s_law_name) [] [] f fd) (hm : mg "_law_name" = some (.ref f)) (T : Bt mg) (F_law_draw : Fn P w K mg base 1 "_law_draw" (spDraw K)) (F_law_of : Fn P w K mg base 2 "_law_of" (spOf K)) (G_law_of : Fn P w K mg base 2 "_law_of" (spOfS K)) : Fn P w K mg base 3 "_law_name" (spName K) := by
  refine fn_def F hm c_law_name (fun vs H Q E h => ?_) (fun _ _ _ _ _ _ us hl => match us, hl with | [_, _], _ => rfl) (fun cdv A outer s H vs Q E hr h => ?_)
  · obtain ⟨b, t, ts, rfl, _⟩ := h
    rfl
  · obtain ⟨b, t, ts, rfl, hb, ht, hne, k⟩ := h
    have nd := c_law_name.nd
    have F_law_of := Fn.or F_law_of G_law_of
    refine ⟨_, (pss_cons (ps_set (i := 2) nd rfl (by first | exact Or.inl rfl | exact Or.inr rfl) pe_str)
      (pss_mid (ps_if (pt_cmpR op_eq (pe_fn F_law_draw (hr.mono (by decide)) (pa_cons (pv 0) (pa_cons pe_int pa_nil))) pe_int (nomark _))
        (pss_one (ps_set (i := 3) nd rfl (by first | exact Or.inl rfl | exact Or.inr rfl) (pe_fn F_law_of (hr.mono (by decide)) (pa_cons (pv 0) (pa_cons (pe_lst (pa_cons pe_str (pa_cons pe_str (pa_cons pe_str (pa_cons pe_str (pa_cons pe_str (pa_cons pe_str (pa_cons pe_str (pa_cons pe_str pa_nil))))))))) pa_nil)))))
        (pss_one (ps_set (i := 3) nd rfl (by first | exact Or.inl rfl | exact Or.inr rfl) (pe_join pe_str (pe_lc (own := [("_law_k", 4)]) (g := gName 4) rfl nd (pi_range1 rfl T.range (pa_cons (pe_fn F_law_of (hr.mono (by decide)) (pa_cons (pv 0) (pa_cons (pe_lst (pa_cons pe_int (pa_cons pe_int (pa_cons pe_int (pa_cons pe_int (pa_cons pe_int pa_nil)))))) pa_nil))) pa_nil)) (blkOk_by (N := ["_law_bag_here", "_law_taken", "_law_signs", "_law_called", "_law_k"]) (sc := defScope s_law_name) (by decide +kernel)) (fun _ _ _ _ _ => pg_name (i := 4) nd rfl (Or.inl rfl)) (fun _ _ _ _ _ => pts_nil) (fun _ _ _ _ _ => (pe_fn F_law_of (hr.mono (by decide)) (pa_cons (pv 0) (pa_cons (pv 2) pa_nil)))))))))
      (pss_cons (ps_for PassesOwn.never rfl (pi_range1 rfl T.range (pa_cons pe_int pa_nil)) (pg_name (i := 4) nd rfl (by first | exact Or.inl rfl | exact Or.inr rfl))
        (pss_one (ps_if (pt_cmpR op_in_seq (pv 3) (pv 1) (by rfl))
          (pss_one (ps_set (i := 3) nd rfl (by first | exact Or.inl rfl | exact Or.inr rfl) (pe_op op_add_str (pe_slice sl_str (pv 3) po_none (po_some (pe_un un_neg pe_int))) (pe_ix ix_str (pv 2) (pe_op op_mod (pe_callTy call_int1 (by rfl) T.int (by decide +kernel) (pa_cons (pe_op op_add (pe_bm PySem.F.plainAttrs_str PySem.F.slot_str_index PySem.F.type_str_index mt_sindex (pv 2) (pa_cons (pe_ix ix_str (pv 3) (pe_un un_neg pe_int) (fun _ _ => rfl)) pa_nil)) pe_int) pa_nil)) pe_int) (fun _ _ => rfl)))))
          pss_nil)))
      (pss_one (ps_ret (pv 3)))))), ?_⟩
    show (_ : TS) _ [some _, some _, none, none, none] _
    try dsimp only [cxOf, Cx.nox]
    walk_at "go"
    refine r_mid (fun σ' H' => ∃ s u, σ' = [some (V.ref b.a), some (V.ref t), some (V.str abcS), some (V.str s), u] ∧ NmS s ∧ BagAt K H' b ∧ Ext [b.a] H H') ?_ ?_
    · walk_at "go"
      refine k_draw hb (by omega) (by decide) fun y H1 y0 y1 b1 n1 => ?_
      walk_at "go"
      refine r_dec (fun h1 => ?_) (fun h1 => ?_)
      · walk_at "go"
        rename_i p hp
        refine .inl (of_strN (ns := ["self", "all", "level", "a", "aaaaaa", "z", "end", "manner"]) (b1.new hp) lstS (b1.ne hp) (by decide) (by decide) fun x H2 hx b2 n2 => ?_)
        walk_at "go"
        exact ⟨x, _, rfl, nm8 hx, b2, n1.trans ((Ext.refl.new hp).trans n2)⟩
      · walk_at "go"
        refine r_M1 ?_
        walk_at "go"
        refine ⟨⟨_, rfl⟩, ?_⟩
        walk_at "go"
        rename_i p hp
        refine .inl (of_intN (ns := [1, 1, 2, 3, 6]) (b1.new hp) lstS (b1.ne hp) (by decide) (by decide) fun x H2 hx b2 n2 => ?_)
        have e2 : Ext [b.a] H H2 := n1.trans ((Ext.refl.new hp).trans n2)
        obtain ⟨n, rfl, n1', n6⟩ : ∃ n : Nat, x = (n : Int) ∧ 1 ≤ n ∧ n ≤ 6 := by
          simp only [List.mem_cons, List.not_mem_nil, or_false] at hx
          rcases hx with rfl | rfl | rfl | rfl | rfl
          · exact ⟨1, rfl, by decide, by decide⟩
          · exact ⟨1, rfl, by decide, by decide⟩
          · exact ⟨2, rfl, by decide, by decide⟩
          · exact ⟨3, rfl, by decide, by decide⟩
          · exact ⟨6, rfl, by decide, by decide⟩
        walk_at "go"
        refine ⟨_, rfl, by omega, by omega, fun D hD => ?_⟩
        have nbD : b.a ≠ D := b2.ne hD
        rw [Int.toNat_natCast]
        refine r_lcR (n := n) (fun i H3 => ∃ cs : List Nat, cs.length = i ∧ (∀ c ∈ cs, c ∈ abcL) ∧ H3 D = some (.lst (cs.map fun c => V.str (ch1 c))) ∧ BagAt K H3 b ∧ Ext [b.a] H2 H3) ⟨[], rfl, (fun _ z => nomatch z), upd_same, b2.new hD, Ext.refl.new hD⟩ ?_ ?_
        · rintro i H3 hi ⟨cs, hl, hc, hD3, b3, e3⟩
          walk_at "go"
          refine ⟨rfl, ?_⟩
          walk_at "go"
          refine .inr ⟨b, abcS, rfl, b3, by decide +kernel, by decide +kernel, fun c H4 hc4 b4 n4 => ?_⟩
          have hc4' : c ∈ abcL := by rw [abc_is] at hc4; simpa using hc4
          have hD4 := n4 _ _ hD3 fun z => nbD (List.mem_singleton.mp z).symm
          refine ⟨_, hD4, Nat.lt_of_le_of_lt (by rw [List.length_map]; omega : _ ≤ 6) (by decide), cs ++ [c], by rw [List.length_append, hl]; rfl, fun d hd => ?_, ?_, b2.own hD b4, ?_⟩
          · rcases List.mem_append.mp hd with hd | hd
            · exact hc d hd
            · rw [List.mem_singleton.mp hd]; exact hc4'
          · rw [upd_same, List.map_append]; rfl
          · exact (e3.trans n4).own hD
        · rintro H3 ⟨cs, hl, hc, hD3, b3, e3⟩
          walk_at "go"
          have hch : (cs.map fun c => V.str (ch1 c)) = (cs.map ch1).map V.str := by rw [List.map_map]; rfl
          have h16 : ((cs.map ch1).map (·.length)).sum = cs.length := by
            rw [List.map_map]
            have : ((fun x : Str => x.length) ∘ ch1) = fun _ => 1 := rfl
            rw [this]
            exact ones cs
          refine ⟨_, D, cs.map ch1, rfl, rfl, .inl (.inl (.inl (by rw [← hch]; exact hD3))), ?_, ?_⟩
          · rw [h16, show (Str.ofString "").length = 0 by decide +kernel]
            omega
          · rw [join_ch]
            walk_at "go"
            exact ⟨_, _, rfl, nmCh (by omega) (by omega) hc, b3, e2.trans e3⟩
    · rintro σ' H1 ⟨s, u, rfl, hs, b1, e1⟩
      walk_at "go"
      refine r_for ?_
      walk_at "go"
      refine ⟨_, rfl, by decide, by decide, ?_⟩
      refine r_loopR (n := 26) (fun i σ H2 => ∃ s u, σ = [some (V.ref b.a), some (V.ref t), some (V.str abcS), some (V.str s), u] ∧ NmS s ∧ BagAt K H2 b ∧ Ext [b.a] H H2) ⟨s, u, rfl, hs, b1, e1⟩ ?_ ?_
      · clear hs b1 e1
        rintro i σ H2 hi ⟨s, u, rfl, hs, b2, e2⟩
        have ht2 : SqL K H2 t (ts.map V.str) := lstX e2 ht fun z => hne (List.mem_singleton.mp z).symm
        walk_at "go"
        refine r_in (.inl ht2) rfl (by simp [flatV]) ?_
        cases hin : inV (V.str s) (ts.map V.str) with
        | false =>
          walk_at "run"
          exact ⟨s, _, rfl, hs, b2, e2⟩
        | true =>
          walk_at "run"
          have l1 := hs.l1
          have l6 := hs.l6
          have s6 : s.length ≤ sizeLine := Nat.le_trans l6 (by decide)
          refine ⟨s, rfl, s6, ?_⟩
          walk_at "go"
          obtain ⟨c, hc, hat⟩ := at_last l1
          obtain ⟨j, rest, ho, hj⟩ := abc_at (hs.low c hc)
          refine ⟨rfl, ?_⟩
          walk_at "go"
          refine r_ixS s6 hat ?_
          walk_at "go"
          refine ⟨abcS, ch1 c, j, rest, rfl, rfl, ho, ?_⟩
          walk_at "go"
          obtain ⟨d, hd, hdt⟩ := at_str (z := abcS) (i := ((j + 1) % 26)) (by have : abcS.length = 26 := by decide +kernel
                                                                              omega)
          rw [show (((j : Int) + 1) % 26) = (((j + 1) % 26 : Nat) : Int) by omega]
          refine r_ixS (by decide +kernel) hdt ?_
          have hd' : d ∈ abcL := by rw [abc_is] at hd; simpa using hd
          have nt := nmTurn hs hd'
          refine ⟨_, _, rfl, rfl, Nat.le_trans (m := 12) ?_ (by decide), ?_⟩
          · have h1 := cutS_length s none (some (-1))
            have h2 : (ch1 d).length = 1 := rfl
            omega
          · walk_at "go"
            exact ⟨_, _, rfl, nt, b2, e2⟩
      · rintro σ H2 ⟨s, u, rfl, hs, b2, e2⟩
        walk_at "go"
        exact k s H2 hs b2 e2
end
end Yk

set_option maxHeartbeats 8000000
namespace Yk
open PySem PySem.Spec PyProof.Rows L2

local macro_rules | `(tactic| walk_at "st") => `(tactic| first
  | with_reducible refine' r_tAt ?_
  | ((with_reducible refine' r_fld ?h1 ?h2 ?h3); (case h1 => first | assumption | exact upd_same); (case h2 => first | walk_at "lk" | rfl))
  | with_reducible refine' r_sAt ?_
  | ((with_reducible refine' r_putU ?h1 ?h2); (case h1 => (repeat refine putF_lt ?_); decide))
  | ((with_reducible refine' r_put ?h1 ?h2 ?h3); (case h1 => first | assumption | exact upd_same); (case h2 => (repeat refine putF_lt ?_); decide))
  | with_reducible refine' r_tMt ?_
  | ((with_reducible refine' r_met ?h1 ?h2 ?h3); (case h1 => first | assumption | exact upd_same); (case h2 => first | walk_at "lk" | rfl))
  | with_reducible refine' r_tCr ?_
  | with_reducible refine' r_tCrK ?_
  | with_reducible refine' r_chain ?_)
local macro_rules | `(tactic| walk_at "st") => `(tactic| first
  | with_reducible refine' r_dget ?_
  | with_reducible refine' r_dc ?_
  | with_reducible refine' r_iVals ?_
  | with_reducible refine' r_dnotin ?_
  | with_reducible refine' r_din ?_
  | with_reducible refine' r_iItems ?_
  | with_reducible refine' r_iKeysT ?_
  | with_reducible refine' r_tget1 ?_
  | with_reducible refine' r_tget2 ?_
  | with_reducible refine' r_dput ?_
  | with_reducible refine' r_tPr ?_
  | ((with_reducible refine' r_prp2 ?h1 ?h2); (case h1 => first | assumption | exact upd_same))
  | with_reducible refine' r_par3 ?_
  | ((with_reducible refine' r_dnT ?_); (intro np hnp))
  | ((with_reducible refine' r_dnK ?_); (intro np hnp)))
/-! Rows of flows that the law draws: amounts and wishes. -/
theorem mk_den {n : Int} {d : Nat} (h : 0 < d) : (mkRat n d).den ≤ d := by
  have e : (mkRat n d).den ∣ d := by
    rw [Rat.den_mkRat, if_neg (by omega)]
    exact Nat.div_dvd_of_dvd (Nat.gcd_dvd_left _ _)
  exact Nat.le_of_dvd h e
theorem In.sm {D M : Nat} {q : Rat} (h : In D M q) (hM : M ≤ 1000) (hd : q.den ≤ 12) : SmQ q := ⟨h.nn, Rat.le_trans h.le (by have := natQ hM; exact this), hd⟩
theorem in30z {M : Nat} {q : Rat} (h : In 30 M q) (hM : M ≤ 2 ^ 400) : Sz 4000 q := szG h (by decide) (Nat.le_trans (by decide : 30 ≤ 2 ^ 5) (Nat.pow_le_pow_right (by decide) (by decide))) hM
theorem z1000 : (1000 : Nat) ≤ 2 ^ 400 := Nat.le_trans (by decide : 1000 ≤ 2 ^ 10) (Nat.pow_le_pow_right (by decide) (by decide))
def spSome5 (K : PySem.W.Frag) : Sp := fun vs H Q _ => ∃ (b : Bag) (M : Nat), vs = [.ref b.a, .int (M : Int)] ∧ BagAt K H b ∧ M ≤ 2 ^ 60 ∧ ∀ v q H', Am K H' v q → In 30 M q → q.den ≤ 5 → BagAt K H' b → Ext [b.a] H H' → Q v H'
theorem k_some5 {K : PySem.W.Frag} {H : Hp} {b : Bag} {M : Nat} {Q : VK} {E : XK} {z : Int} (hz : z = (M : Int)) (hb : BagAt K H b) (hM : M ≤ 1000) (k : ∀ v q H', Am K H' v q → In 30 M q → q.den ≤ 5 → BagAt K H' b → Ext [b.a] H H' → Q v H') : spSome5 K [.ref b.a, .int z] H Q E :=
  ⟨b, M, by rw [hz], hb, Nat.le_trans hM (by decide), k⟩
theorem k_part {K : PySem.W.Frag} {H : Hp} {b : Bag} {v : V} {q : Rat} {Q : VK} {E : XK} (hb : BagAt K H b) (hv : Am K H v q) (h0 : 0 ≤ q) (hz : Sz 4000 q) (k : ∀ u r H', Am K H' u r → PartQ q r → BagAt K H' b → Ext [b.a] H H' → Q u H') : spPart K [.ref b.a, v] H Q E := ⟨b, v, q, rfl, hb, hv, h0, hz, k⟩
theorem in_gmax {D M : Nat} {p q : Rat} (h : In D M p) (g : In D M q) : In D M (gmax p q) := by unfold gmax; split <;> assumption
theorem in_lmin {D M : Nat} {p q : Rat} (h : In D M p) (g : In D M q) : In D M (lmin p q) := by unfold lmin; split <;> assumption
theorem In.cap {D M M' : Nat} {q : Rat} (h : In D M q) (hq : q ≤ (M' : Rat)) : In D M' q := { h with le := hq }
theorem rest_eq {p q : Rat} (h : q ≤ p) : restQ p q = p - q := by unfold restQ; grind
theorem inz {D M : Nat} {q : Rat} (h : In D M q) (h0 : 0 < D) (hD : D ≤ 2 ^ 64) (hM : M ≤ 2 ^ 64) : Sz 4000 q := szG h h0 (Nat.le_trans hD (Nat.pow_le_pow_right (by decide) (by decide))) (Nat.le_trans hM (Nat.pow_le_pow_right (by decide) (by decide)))
/-- d[k], k a text -/
theorem r_getS {d : Addr} {kvs : List (Key × V)} {s : Str} {v : V} {H : Hp} {R : V → Prop} (h1 : H d = some (.dK kvs)) (h2 : valV kvs (.inr s) = some v) (h : R v) : ∃ a v', V.ref d = V.ref a ∧ DGet H a (V.str s) (some v') ∧ R v' := ⟨d, v, rfl, .inl ⟨kvs, .inr s, .inl h1, rfl, h2.symm⟩, h⟩
theorem r_putS {d : Addr} {kvs : List (Key × V)} {s : Str} {v : V} {H : Hp} {R : Hp → Prop} (h1 : H d = some (.dK kvs)) (hl : kvs.length < 1000) (h : R (upd H d (.dK (putK kvs (.inr s) v)))) : ∃ a H4, V.ref d = V.ref a ∧ DPut H a (V.str s) v H4 ∧ R H4 :=
  ⟨d, _, rfl, DPut.k (k := .inr s) h1 (Nat.lt_trans hl (by decide)), h⟩
theorem bag_ne_dk {K : PySem.W.Frag} {H : Hp} {b : Bag} {d : Addr} {kvs : List (Key × V)} (hb : BagAt K H b) (hd : H d = some (.dK kvs)) : d ≠ b.a := fun z => by
  obtain ⟨l, hl⟩ := hb.lst
  rw [z, hl] at hd
  cases hd
section
variable {P : Program} {w : World} {K : PySem.W.Frag} {mg : Str → Option Value} {base : Heap} {f : Addr} {fd : FuncData}
theorem g_law_some (F : FunD K "_law_some" "_law_some" (defArgs s_law_some) (defBody s_law_some) (defScope s_law_some) [] [] f fd) (hm : mg "_law_some" = some (.ref f)) (T : Bt mg) (F_law_draw : Fn P w K mg base 1 "_law_draw" (spDraw K)) (F_law_of : Fn P w K mg base 2 "_law_of" (spOf K)) (F_law_amount : Fn P w K mg base 1 "_law_amount" (spPair K)) : Fn P w K mg base 3 "_law_some" (spSome5 K) := by
  refine fn_def F hm c_law_some (fun vs H Q E h => ?_) (fun _ _ _ _ _ _ us hl => match us, hl with | [_, _], _ => rfl) (fun cdv A outer s H vs Q E hr h => ?_)
  · obtain ⟨b, M, rfl, _⟩ := h
    rfl
  · obtain ⟨b, M, rfl, hb, hM, k⟩ := h
    have nd := c_law_some.nd
    refine ⟨_, (pss_cons (ps_set (i := 2) nd rfl (by first | exact Or.inl rfl | exact Or.inr rfl) (pe_fn F_law_of (hr.mono (by decide)) (pa_cons (pv 0) (pa_cons (pe_lst (pa_cons pe_int (pa_cons pe_int (pa_cons pe_int (pa_cons pe_int (pa_cons pe_int (pa_cons pe_int (pa_cons pe_int (pa_cons pe_int pa_nil))))))))) pa_nil))))
      (pss_one (ps_ret (pe_fn F_law_amount (hr.mono (by decide)) (pa_cons (pe_fn F_law_draw (hr.mono (by decide)) (pa_cons (pv 0) (pa_cons (pe_op op_add (pe_op op_mulW (pv 1) (pv 2)) pe_int) pa_nil))) (pa_cons (pv 2) pa_nil)))))), ?_⟩
    show (_ : TS) _ [some _, some _, none] _
    try dsimp only [cxOf, Cx.nox]
    walk_at "go"
    rename_i p hp
    refine of_intN (ns := [1, 1, 2, 1, 3, 1, 2, 5]) (hb.new hp) lstS (hb.ne hp) (Nat.zero_lt_succ _) (show 8 ≤ 4000 by decide) fun x H1 hx b1 n1 => ?_
    obtain ⟨d, rfl, d0, d5, dd⟩ : ∃ d : Nat, x = (d : Int) ∧ 0 < d ∧ d ≤ 5 ∧ d ∣ 30 := by
      simp only [List.mem_cons, List.not_mem_nil, or_false] at hx
      rcases hx with rfl | rfl | rfl | rfl | rfl | rfl | rfl | rfl
      · exact ⟨1, rfl, by decide, by decide, by decide⟩
      · exact ⟨1, rfl, by decide, by decide, by decide⟩
      · exact ⟨2, rfl, by decide, by decide, by decide⟩
      · exact ⟨1, rfl, by decide, by decide, by decide⟩
      · exact ⟨3, rfl, by decide, by decide, by decide⟩
      · exact ⟨1, rfl, by decide, by decide, by decide⟩
      · exact ⟨2, rfl, by decide, by decide, by decide⟩
      · exact ⟨5, rfl, by decide, by decide, by decide⟩
    have e1 : Ext [b.a] H H1 := Ext.trans (Ext.refl.new hp) n1
    have h60 : M ≤ 1152921504606846976 := hM
    have mw : CMulW (M : Int) (d : Int) := cmul (m := 61) (n := 4) (Nat.lt_of_le_of_lt (by omega : (M : Int).natAbs ≤ 1152921504606846976) (by decide)) (Nat.lt_of_le_of_lt (by omega : (d : Int).natAbs ≤ 5) (by decide)) (by decide) (by decide) (by decide)
    have hmd : M * d ≤ 1152921504606846976 * 5 := Nat.mul_le_mul h60 d5
    walk_at "go"
    have e2 : (M : Int) * (d : Int) = ((M * d : Nat) : Int) := by rw [Int.natCast_mul]
    rw [e2]
    refine k_draw b1 (by omega) (Int.lt_of_le_of_lt (by omega : ((M * d : Nat) : Int) + 1 ≤ 1152921504606846976 * 5 + 1) (by decide)) fun y H2 y0 y1 b2 n2 => ?_
    walk_at "go"
    refine ⟨y.toNat, d, by rw [Int.toNat_of_nonneg y0], d0, Nat.lt_of_le_of_lt (by omega : y.toNat ≤ 1152921504606846976 * 5) (Nat.lt_of_lt_of_le (by decide) (Nat.pow_le_pow_right (by decide) (by decide : 100 ≤ 8900))), Nat.lt_of_le_of_lt d5 (Nat.lt_of_lt_of_le (by decide) (Nat.pow_le_pow_right (by decide) (by decide : 100 ≤ 8900))), fun v H3 e3 a3 => ?_⟩
    exact k v _ H3 a3 (In.frac d0 dd (by omega)) (Nat.le_trans (mk_den d0) d5) (b2.x0 e3) (e1.trans (n2.trans (e3.mono fun _ z => nomatch z)))
/-- an amount not below another one -/
def spAbove (K : PySem.W.Frag) : Sp := fun vs H Q _ => ∃ (b : Bag) (v : V) (q : Rat), vs = [.ref b.a, v] ∧ BagAt K H b ∧ Am K H v q ∧ In 30 1000 q ∧ q.den ≤ 12 ∧ ∀ u r H', Am K H' u r → In 30 1000 r → r.den ≤ 12 → q ≤ r → BagAt K H' b → Ext [b.a] H H' → Q u H'
abbrev s_law_above : Stmt := top 67
theorem c_law_above : FnScope ["_law_bag_here", "_law_base", "_law_more"] ["_law_bag_here", "_law_base"] (defScope s_law_above) := ⟨rfl, rfl, rfl, by decide +kernel, rfl, by decide +kernel, by decide +kernel⟩
theorem f_law_above (F : FunD K "_law_above" "_law_above" (defArgs s_law_above) (defBody s_law_above) (defScope s_law_above) [] [] f fd) (hm : mg "_law_above" = some (.ref f)) (T : Bt mg) (F_law_draw : Fn P w K mg base 1 "_law_draw" (spDraw K)) (G_law_some : Fn P w K mg base 3 "_law_some" (spSome5 K)) (F_law_sum : Fn P w K mg base 2 "_law_sum" (sp2 (fun _ _ => True) (· + ·) K)) (F_law_less : Fn P w K mg base 1 "_law_less" (spLess K)) : Fn P w K mg base 4 "_law_above" (spAbove K) := by
  refine fn_def F hm c_law_above (fun vs H Q E h => ?_) (fun _ _ _ _ _ _ us hl => match us, hl with | [_, _], _ => rfl) (fun cdv A outer s H vs Q E hr h => ?_)
  · obtain ⟨b, v, q, rfl, _⟩ := h
    rfl
  · obtain ⟨b, v, q, rfl, hb, hv, iq, dq, k⟩ := h
    have nd := c_law_above.nd
    refine ⟨_, (pss_cons (ps_set (i := 2) nd rfl (by first | exact Or.inl rfl | exact Or.inr rfl) (pe_fn F_law_sum (hr.mono (by decide)) (pa_cons (pv 1) (pa_cons (pe_fn G_law_some (hr.mono (by decide)) (pa_cons (pv 0) (pa_cons pe_int pa_nil))) pa_nil))))
      (pss_cons (ps_if (pt_cmpR op_eq (pe_fn F_law_draw (hr.mono (by decide)) (pa_cons (pv 0) (pa_cons pe_int pa_nil))) pe_int (nomark _))
        (pss_one (ps_ret (pv 1)))
        pss_nil)
      (pss_one (ps_ret (pe_ifExp (PW.pt (pw_and (pt_cmpR op_le (pe_ix ix_tup (pv 2) pe_int (fun _ _ => rfl)) pe_int (nomark _)) (pw_and1 (pt_not (pt_val (pe_fn F_law_less (hr.mono (by decide)) (pa_cons (pe_tup (pa_cons pe_int (pa_cons pe_int pa_nil))) (pa_cons (pv 2) pa_nil)))))))) (pv 2) (pe_tup (pa_cons pe_int (pa_cons pe_int pa_nil)))))))), ?_⟩
    show (_ : TS) _ [some _, some _, none] _
    try dsimp only [cxOf, Cx.nox]
    walk_at "go"
    refine k_some5 (M := 9) rfl hb (by decide) fun u r H1 ha ir dr b1 n1 => ?_
    have hv1 := hv.b hb n1
    walk_at "go"
    refine k_two hv1 ha (in30z iq z1000) (in30z ir (Nat.le_trans (by decide) z1000)) iq.nn ir.nn trivial fun m H2 e2 hm => ?_
    have im := iq.add ir
    have b2 := b1.x0 e2
    have n2 := n1.trans e2.of0
    walk_at "go"
    refine k_draw b2 (by omega) (by decide) fun y H3 y0 y1 b3 n3 => ?_
    have hm3 := hm.b b2 n3
    have hv3 := (hv1.x0 e2).b b2 n3
    have e3 := n2.trans n3
    walk_at "go"
    refine r_dec (fun _ => ?_) (fun _ => ?_)
    · walk_at "go"
      exact k v q H3 hv3 iq dq Rat.le_refl b3 e3
    · walk_at "go"
      obtain ⟨am, rfl, hsq⟩ := id hm3
      walk_at "go"
      have kT : ∀ p (hp : H3 p = none), Q (.ref p) (upd H3 p (.tup [.int 1000, .int 1])) := fun p hp =>
        k (.ref p) 1000 _ ⟨p, rfl, tupS⟩ (In.nat (Nat.le_refl 1000)) (by decide +kernel) (Rat.le_trans iq.le (by norm_cast)) (b3.x0 (Ext.refl.new hp)) (e3.trans (Ext.refl.new hp))
      refine r_dec (fun hd => ?_) (fun hd => ?_)
      · walk_at "go"
        rename_i p hp
        have e4 : Ext [] H3 (upd H3 p (.tup [.int 1000, .int 1])) := Ext.refl.new hp
        refine ⟨.ref p, .ref am, 1000, q + r, rfl, ⟨p, rfl, tupS⟩, hm3.x0 e4, ⟨by decide +kernel, by decide +kernel⟩, in30z im (Nat.le_trans (by decide) (Nat.pow_le_pow_right (by decide) (by decide : 20 ≤ 400))), ?_⟩
        walk_at "go"
        refine r_ndec (fun hl => ?_) (fun hl => ?_)
        · walk_at "go"
          refine k (.ref am) (q + r) _ (hm3.x0 e4) (im.of_le ?_) (by omega) ?_ (b3.x0 e4) (e3.trans e4.of0)
          · have := Rat.not_lt.mp hl
            norm_cast
          · have := ir.nn
            grind
        · walk_at "go"
          rename_i p2 hp2
          have e5 : Ext [] H3 (upd (upd H3 p (.tup [.int 1000, .int 1])) p2 (.tup [.int 1000, .int 1])) := e4.new hp2
          exact k (.ref p2) 1000 _ ⟨p2, rfl, tupS⟩ (In.nat (Nat.le_refl 1000)) (by decide +kernel) (Rat.le_trans iq.le (by norm_cast)) (b3.x0 e5) (e3.trans e5.of0)
      · walk_at "run"
        rename_i p hp
        exact kT p hp
/-- a wish of a flow with the least g and the greatest G -/
def spWish (K : PySem.W.Frag) : Sp := fun vs H Q _ => ∃ (b : Bag) (d : Addr) (kvs : List (Key × V)) (vg vG : V) (g G : Rat), vs = [.ref b.a, .ref d] ∧ BagAt K H b ∧ H d = some (.dK kvs) ∧ valV kvs (.inr "g") = some vg ∧ valV kvs (.inr "G") = some vG ∧ Am K H vg g ∧ Am K H vG G ∧ In 30 1000 g ∧ In 30 1000 G ∧ g ≤ G ∧
  ∀ v man H', ManIs K H' v man → (∀ p, man = some p → PairOk p ∧ p.1 ≤ g ∧ p.2 ≤ G ∧ In 27000 1000 p.1 ∧ In 27000 1000 p.2) → BagAt K H' b → Ext [b.a] H H' → Q v H'
abbrev s_law_wish : Stmt := top 68
theorem c_law_wish : FnScope ["_law_bag_here", "_law_row", "_law_base"] ["_law_bag_here", "_law_row"] (defScope s_law_wish) := ⟨rfl, rfl, rfl, by decide +kernel, rfl, by decide +kernel, by decide +kernel⟩
theorem f_law_wish (F : FunD K "_law_wish" "_law_wish" (defArgs s_law_wish) (defBody s_law_wish) (defScope s_law_wish) [] [] f fd) (hm : mg "_law_wish" = some (.ref f)) (T : Bt mg) (F_law_draw : Fn P w K mg base 1 "_law_draw" (spDraw K)) (G_law_some : Fn P w K mg base 3 "_law_some" (spSome5 K)) (F_law_part : Fn P w K mg base 3 "_law_part" (spPart K)) (F_law_sum : Fn P w K mg base 2 "_law_sum" (sp2 (fun _ _ => True) (· + ·) K)) (F_law_rest : Fn P w K mg base 2 "_law_rest" (sp2 (fun _ _ => True) restQ K)) (F_law_min : Fn P w K mg base 2 "_law_min" (sp2 (fun _ _ => True) lmin K)) (F_law_max : Fn P w K mg base 2 "_law_max" (sp2 (fun _ _ => True) gmax K)) : Fn P w K mg base 4 "_law_wish" (spWish K) := by
  refine fn_def F hm c_law_wish (fun vs H Q E h => ?_) (fun _ _ _ _ _ _ us hl => match us, hl with | [_, _], _ => rfl) (fun cdv A outer s H vs Q E hr h => ?_)
  · obtain ⟨b, d, kvs, vg, vG, g, G, rfl, _⟩ := h
    rfl
  · obtain ⟨b, d, kvs, vg, vG, g, G, rfl, hb, hd, lg, lG, ag, aG, ig, iG, hgG, k⟩ := h
    have nd := c_law_wish.nd
    refine ⟨_, (pss_cons (ps_if (pt_cmpR op_eq (pe_fn F_law_draw (hr.mono (by decide)) (pa_cons (pv 0) (pa_cons pe_int pa_nil))) pe_int (nomark _))
        (pss_one (ps_ret (pe_tup pa_nil)))
        pss_nil)
      (pss_cons (ps_set (i := 2) nd rfl (by first | exact Or.inl rfl | exact Or.inr rfl) (pe_fn F_law_part (hr.mono (by decide)) (pa_cons (pv 0) (pa_cons (pe_dget (hu_of hr) (pv 1) pe_str (fun _ _ => rfl)) pa_nil))))
      (pss_cons (ps_if (pt_cmpR op_eq (pe_fn F_law_draw (hr.mono (by decide)) (pa_cons (pv 0) (pa_cons pe_int pa_nil))) pe_int (nomark _))
        (pss_one (ps_ret (pe_tup (pa_cons (pv 2) (pa_cons (pe_fn F_law_max (hr.mono (by decide)) (pa_cons (pv 2) (pa_cons (pe_fn F_law_min (hr.mono (by decide)) (pa_cons (pe_dget (hu_of hr) (pv 1) pe_str (fun _ _ => rfl)) (pa_cons (pe_fn G_law_some (hr.mono (by decide)) (pa_cons (pv 0) (pa_cons pe_int pa_nil))) pa_nil))) pa_nil))) pa_nil)))))
        pss_nil)
      (pss_one (ps_ret (pe_tup (pa_cons (pv 2) (pa_cons (pe_fn F_law_sum (hr.mono (by decide)) (pa_cons (pv 2) (pa_cons (pe_fn F_law_part (hr.mono (by decide)) (pa_cons (pv 0) (pa_cons (pe_fn F_law_rest (hr.mono (by decide)) (pa_cons (pe_dget (hu_of hr) (pv 1) pe_str (fun _ _ => rfl)) (pa_cons (pv 2) pa_nil))) pa_nil))) pa_nil))) pa_nil)))))))), ?_⟩
    show (_ : TS) _ [some _, some _, none] _
    try dsimp only [cxOf, Cx.nox]
    have dne := bag_ne_dk hb hd
    have kd : ∀ {H1}, Ext [b.a] H H1 → H1 d = some (.dK kvs) := fun e => e _ _ hd fun z => dne (List.mem_singleton.mp z)
    walk_at "go"
    refine k_draw hb (by omega) (by decide) fun y H1 y0 y1 b1 n1 => ?_
    walk_at "go"
    refine r_dec (fun _ => ?_) (fun _ => ?_)
    · walk_at "go"
      rename_i p hp
      exact k (.ref p) none _ ⟨p, rfl, tupS⟩ (fun p z => nomatch z) (b1.x0 (Ext.refl.new hp)) (n1.trans (Ext.refl.new hp))
    · walk_at "go"
      refine r_getS (kd n1) lg ?_
      walk_at "go"
      refine k_part b1 (ag.b hb n1) ig.nn (in30z ig z1000) fun u r H2 au pq b2 n2 => ?_
      obtain ⟨r0, rg⟩ := pq.le ig.nn
      have ir : In (30 * 30) 1000 r := pq.in_ ig
      have e2 := n1.trans n2
      walk_at "go"
      refine k_draw b2 (by omega) (by decide) fun y H3 y0 y1 b3 n3 => ?_
      have e3 := e2.trans n3
      have au3 := au.b b2 n3
      have aG3 := aG.b hb e3
      have iG9 : In (30 * 30) 1000 G := iG.up (by decide)
      walk_at "go"
      refine r_dec (fun _ => ?_) (fun _ => ?_)
      · walk_at "go"
        refine r_getS (kd e3) lG ?_
        walk_at "go"
        refine k_some5 (M := 6) rfl b3 (by decide) fun us q H4 as_ is_ ds b4 n4 => ?_
        have i9 : In (30 * 30) 1000 q := (is_.most (by decide)).up (by decide)
        walk_at "go"
        refine k_two (aG3.b b3 n4) as_ (in30z iG z1000) (in30z is_ (Nat.le_trans (by decide) z1000)) iG.nn is_.nn trivial fun vm H5 e5 am => ?_
        have im := in_lmin iG9 i9
        walk_at "go"
        refine k_two ((au3.b b3 n4).x0 e5) am (inz ir (by decide) (by decide) (by decide)) (inz im (by decide) (by decide) (by decide)) r0 im.nn trivial fun vx H6 e6 ax => ?_
        have ix := in_gmax ir im
        walk_at "go"
        rename_i p hp
        have e7 : Ext [] H6 (upd H6 p (.tup [u, vx])) := Ext.refl.new hp
        have e46 : Ext [] H4 (upd H6 p (.tup [u, vx])) := e5.trans (e6.trans e7)
        refine k (.ref p) (some (r, gmax r (lmin G q))) _ ⟨p, u, vx, rfl, tupS, (((au3.b b3 n4).x0 e5).x0 e6).x0 e7, ax.x0 e7⟩ (fun p z => ?_) (b4.x0 e46) (e3.trans (n4.trans e46.of0))
        cases z
        refine ⟨⟨r0, ?_, inz ir (by decide) (by decide) (by decide), inz ix (by decide) (by decide) (by decide)⟩, rg, ?_, ir.up (by decide), ix.up (by decide)⟩
        · show r ≤ gmax r (lmin G q)
          unfold gmax
          split <;> grind
        · show gmax r (lmin G q) ≤ G
          have := lmin_le1 G q
          unfold gmax
          split <;> grind
      · walk_at "go"
        refine r_getS (kd e3) lG ?_
        walk_at "go"
        have hrG : r ≤ G := Rat.le_trans rg hgG
        refine k_two aG3 au3 (in30z iG z1000) (inz ir (by decide) (by decide) (by decide)) iG.nn r0 trivial fun vr H4 e4 ar => ?_
        rw [rest_eq hrG] at ar
        have is_ : In (30 * 30) 1000 (G - r) := iG9.sub ir hrG
        have b4 := b3.x0 e4
        walk_at "go"
        refine k_part b4 ar is_.nn (inz is_ (by decide) (by decide) (by decide)) fun vp q H5 ap pq5 b5 n5 => ?_
        obtain ⟨q0, qs⟩ := pq5.le is_.nn
        have iq : In (30 * 30 * 30) 1000 q := pq5.in_ is_
        have au5 := (au3.x0 e4).b b4 n5
        walk_at "go"
        refine k_two au5 ap (inz ir (by decide) (by decide) (by decide)) (inz iq (by decide) (by decide) (by decide)) r0 q0 trivial fun vx H6 e6 ax => ?_
        have ix : In (30 * 30 * 30) 2000 (r + q) := (ir.up (by decide)).add iq
        walk_at "go"
        rename_i p hp
        have e7 : Ext [] H6 (upd H6 p (.tup [u, vx])) := Ext.refl.new hp
        have e57 : Ext [] H5 (upd H6 p (.tup [u, vx])) := e6.trans e7
        refine k (.ref p) (some (r, r + q)) _ ⟨p, u, vx, rfl, tupS, (au5.x0 e6).x0 e7, ax.x0 e7⟩ (fun p z => ?_) (b5.x0 e57) (e3.trans (e4.of0.trans (n5.trans e57.of0)))
        cases z
        refine ⟨⟨r0, ?_, inz ir (by decide) (by decide) (by decide), inz ix (by decide) (by decide) (by decide)⟩, rg, ?_, ir.up (by decide), ix.cap (by show r + q ≤ ((1000 : Nat) : Rat); have := iG.le; grind)⟩
        · show r ≤ r + q
          grind
        · show r + q ≤ G
          grind
end
end Yk

set_option maxHeartbeats 4000000
namespace Yk
open PySem PySem.Spec PyProof.Rows L2
/-! Tables with numbers as keys: what a hop remembers. -/
section
variable {κ α : Type} [DecidableEq κ]
abbrev ND (c : List (κ × α)) : Prop := (c.map (·.1)).Nodup
theorem gv_nil {k : κ} : gv ([] : List (κ × α)) k = none := rfl
theorem gv_cons (p : κ × α) (c : List (κ × α)) (k : κ) : gv (p :: c) k = if p.1 = k then some p.2 else gv c k := by
  unfold gv
  rw [List.find?_cons]
  by_cases e : p.1 = k
  · rw [decide_eq_true e, if_pos e]; rfl
  · rw [decide_eq_false e, if_neg e]
theorem gv_any (k : κ) : ∀ c : List (κ × α), (c.any fun p => decide (p.1 = k)) = (gv c k).isSome
  | [] => rfl
  | p :: c => by
    rw [List.any_cons, gv_cons]
    by_cases e : p.1 = k
    · rw [decide_eq_true e, if_pos e]; rfl
    · rw [decide_eq_false e, if_neg e, Bool.false_or, gv_any k c]
theorem gv_map (k j : κ) (y : α) : ∀ c : List (κ × α), gv (c.map fun p => if p.1 = k then (p.1, y) else p) j = (gv c j).map fun x => if j = k then y else x
  | [] => rfl
  | p :: c => by
    rw [List.map_cons, gv_cons, gv_cons, gv_map k j y c]
    by_cases h : p.1 = k
    · rw [if_pos h]
      by_cases e : p.1 = j
      · rw [if_pos e, if_pos e, Option.map_some, if_pos (e.symm.trans h)]
      · rw [if_neg e, if_neg e]
    · rw [if_neg h]
      by_cases e : p.1 = j
      · rw [if_pos e, if_pos e, Option.map_some, if_neg (fun z => h (e.trans z))]
      · rw [if_neg e, if_neg e]
theorem gv_app (j : κ) (d : List (κ × α)) : ∀ c : List (κ × α), gv (c ++ d) j = (gv c j).or (gv d j)
  | [] => rfl
  | p :: c => by
    rw [List.cons_append, gv_cons, gv_cons, gv_app j d c]
    by_cases e : p.1 = j
    · rw [if_pos e, if_pos e]; rfl
    · rw [if_neg e, if_neg e]
theorem gp_new {c : List (κ × α)} {k : κ} (y : α) (h : gv c k = none) : gp c k y = c ++ [(k, y)] := by
  unfold gp
  rw [gv_any, h, if_neg (by simp)]
theorem gv_gp (c : List (κ × α)) (k j : κ) (y : α) : gv (gp c k y) j = if j = k then some y else gv c j := by
  unfold gp
  rw [gv_any]
  cases h : gv c k with
  | none =>
    rw [if_neg (by simp), gv_app, gv_cons]
    by_cases e : j = k
    · subst e
      rw [h, if_pos rfl, if_pos rfl]; rfl
    · rw [if_neg (fun z => e z.symm), if_neg e, gv_nil]
      cases gv c j <;> rfl
  | some x =>
    rw [if_pos (by rfl), gv_map]
    by_cases e : j = k
    · subst e
      rw [h, if_pos rfl, Option.map_some, if_pos rfl]
    · rw [if_neg e]
      cases gv c j with
      | none => rfl
      | some z => rw [Option.map_some, if_neg e]
theorem gv_none {k : κ} : ∀ {c : List (κ × α)}, gv c k = none ↔ k ∉ c.map (·.1)
  | [] => by simp [gv]
  | p :: c => by
    rw [gv_cons, List.map_cons, List.mem_cons]
    by_cases e : p.1 = k
    · rw [if_pos e]; simp [e]
    · rw [if_neg e, gv_none]
      exact ⟨fun h => by rintro (z | z); exact e z.symm; exact h z, fun h z => h (.inr z)⟩
theorem gv_iff {k : κ} {y : α} : ∀ {c : List (κ × α)}, ND c → (gv c k = some y ↔ (k, y) ∈ c)
  | [], _ => by simp [gv]
  | p :: c, h => by
    have h' := List.nodup_cons.mp (show (p.1 :: c.map (·.1)).Nodup from h)
    rw [gv_cons, List.mem_cons]
    by_cases e : p.1 = k
    · rw [if_pos e]
      constructor
      · intro z
        left
        rw [← e, ← Option.some.inj z]
      · rintro (z | z)
        · rw [← z]
        · exact absurd (by rw [e]; exact List.mem_map_of_mem (f := (·.1)) z) h'.1
    · rw [if_neg e, gv_iff h'.2]
      exact ⟨fun z => .inr z, fun z => z.resolve_left fun q => e (by rw [← q])⟩
theorem nd_gp {c : List (κ × α)} (h : ND c) (k : κ) (y : α) : ND (gp c k y) := by
  unfold gp
  rw [gv_any]
  cases e : gv c k with
  | none =>
    rw [if_neg (by simp)]
    show ((c ++ [(k, y)]).map (·.1)).Nodup
    rw [List.map_append, List.nodup_append]
    refine ⟨h, by simp, ?_⟩
    intro a ha b hb
    have := gv_none.mp e
    simp at hb
    rw [hb]
    exact fun z => this (z ▸ ha)
  | some x =>
    rw [if_pos (by rfl)]
    unfold ND
    rw [List.map_map]
    have e2 : ((·.1) ∘ fun p : κ × α => if p.1 = k then (p.1, y) else p) = (·.1) := by
      funext p
      show (if p.1 = k then (p.1, y) else p).1 = p.1
      split <;> rfl
    rw [e2]
    exact h
theorem gp_len (c : List (κ × α)) (k : κ) (y : α) : (gp c k y).length ≤ c.length + 1 := by
  unfold gp
  split
  · rw [List.length_map]; omega
  · simp
theorem gp_mem {c : List (κ × α)} {k : κ} {y : α} {p : κ × α} (h : p ∈ gp c k y) : p.2 = y ∨ p ∈ c := by
  unfold gp at h
  split at h
  · obtain ⟨q, hq, e⟩ := List.mem_map.mp h
    split at e
    · left; rw [← e]
    · right; rw [← e]; exact hq
  · rcases List.mem_append.mp h with h | h
    · exact .inr h
    · left; rw [List.mem_singleton.mp h]
theorem nd_filter {c : List (κ × α)} (h : ND c) (f : κ × α → Bool) : ND (c.filter f) := by
  have h1 := List.pairwise_map.mp h
  exact List.pairwise_map.mpr (h1.filter f)
theorem nd_pairs {c : List (κ × α)} (h : ND c) : c.Nodup := (List.pairwise_map.mp h).imp fun z q => z (by rw [q])
theorem perm_of {c c' : List (κ × α)} {f : κ → Bool} (h : ND c) (h' : ND c') (e : ∀ k, f k = true → gv c k = gv c' k) : (c.filter fun p => f p.1).Perm (c'.filter fun p => f p.1) := by
  refine (List.perm_ext_iff_of_nodup (nd_pairs (nd_filter h _)) (nd_pairs (nd_filter h' _))).mpr fun p => ?_
  rw [List.mem_filter, List.mem_filter]
  constructor
  · rintro ⟨h1, h2⟩
    exact ⟨(gv_iff (k := p.1) (y := p.2) h').mp (by rw [← e p.1 h2]; exact (gv_iff h).mpr h1), h2⟩
  · rintro ⟨h1, h2⟩
    exact ⟨(gv_iff (k := p.1) (y := p.2) h).mp (by rw [e p.1 h2]; exact (gv_iff h').mpr h1), h2⟩
theorem gv_filter (f : κ → Bool) (k : κ) : ∀ c : List (κ × α), gv (c.filter fun p => f p.1) k = if f k = true then gv c k else none
  | [] => by simp [gv]
  | p :: c => by
    rw [List.filter_cons]
    by_cases e : p.1 = k
    · by_cases hf : f p.1 = true
      · rw [if_pos hf, gv_cons, if_pos e, ← e, if_pos hf, gv_cons, if_pos rfl]
      · rw [if_neg hf, gv_filter f k c, ← e, if_neg hf, if_neg hf]
    · by_cases hf : f p.1 = true
      · rw [if_pos hf, gv_cons, if_neg e, gv_filter f k c, gv_cons, if_neg e]
      · rw [if_neg hf, gv_filter f k c, gv_cons, if_neg e]
end
def win (c : List (Int × Rat)) (lo hi : Int) : List Rat := (c.filter fun p => decide (lo < p.1) && decide (p.1 < hi)).map (·.2)
theorem win_perm {c c' : List (Int × Rat)} {lo hi : Int} (h : ND c) (h' : ND c') (e : ∀ k, lo < k → gv c k = gv c' k) : (win c lo hi).Perm (win c' lo hi) :=
  (perm_of (f := fun k => decide (lo < k) && decide (k < hi)) h h' fun k hk => e k (by simp at hk; exact hk.1)).map _
/-- a dict with numbers as keys against a table -/
inductive IT {α : Type} (R : V → α → Prop) : List (Key × V) → List (Int × α) → Prop
  | nil : IT R [] []
  | cons {k : Int} {v : V} {y : α} {l : List (Key × V)} {c : List (Int × α)} : R v y → IT R l c → IT R ((.inl k, v) :: l) ((k, y) :: c)
section
variable {α : Type} {R R' : V → α → Prop} {l : List (Key × V)} {c : List (Int × α)} {k : Int} {v : V} {y : α}
theorem IT.imp (f : ∀ v y, R v y → R' v y) (h : IT R l c) : IT R' l c := by
  induction h with
  | nil => exact .nil
  | cons a _ ih => exact .cons (f _ _ a) ih
theorem IT.len (h : IT R l c) : l.length = c.length := by
  induction h with
  | nil => rfl
  | cons a _ ih => simp [ih]
theorem IT.get (h : IT R l c) : ∀ {i : Nat} {k : Key} {x : V}, l[i]? = some (k, x) → ∃ n y, k = .inl n ∧ c[i]? = some (n, y) ∧ R x y := by
  induction h with
  | nil => intro i k x z; simp at z
  | @cons k' v' y' l c a _ ih =>
    intro i k x z
    cases i with
    | zero => cases z; exact ⟨k', y', rfl, rfl, a⟩
    | succ i => exact ih (i := i) (by simpa using z)
theorem IT.val (h : IT R l c) (k : Int) : (valV l (.inl k) = none ∧ gv c k = none) ∨ ∃ v y, valV l (.inl k) = some v ∧ gv c k = some y ∧ R v y := by
  induction h with
  | nil => exact .inl ⟨rfl, rfl⟩
  | @cons k' v y l c a _ ih =>
    rw [gv_cons]
    by_cases e : k' = k
    · subst e
      exact .inr ⟨v, y, valV_pos rfl, by rw [if_pos rfl], a⟩
    · rw [valV_neg (p := ((.inl k' : Key), v)) (fun z => e (Sum.inl.inj z)), if_neg e]
      exact ih
theorem IT.any (h : IT R l c) (k : Int) : (l.any fun p => decide (p.1 = .inl k)) = (c.any fun p => decide (p.1 = k)) := by
  rw [valV_any, gv_any]
  rcases h.val k with ⟨a, b⟩ | ⟨v, y, a, b, _⟩ <;> rw [a, b] <;> rfl
theorem IT.repl (h : IT R l c) (a : R v y) : IT R (l.map fun kv => if kv.1 = .inl k then (kv.1, v) else kv) (c.map fun p => if p.1 = k then (p.1, y) else p) := by
  induction h with
  | nil => exact .nil
  | @cons k' v' y' l c b _ ih =>
    rw [List.map_cons, List.map_cons]
    by_cases e : k' = k
    · subst e
      rw [if_pos rfl, if_pos rfl]; exact .cons a ih
    · rw [if_neg (fun z => e (Sum.inl.inj z)), if_neg e]; exact .cons b ih
theorem IT.app {l2 : List (Key × V)} {c2 : List (Int × α)} (h : IT R l c) (g : IT R l2 c2) : IT R (l ++ l2) (c ++ c2) := by
  induction h with
  | nil => exact g
  | cons b _ ih => exact .cons b ih
theorem IT.put (h : IT R l c) (a : R v y) : IT R (putK l (.inl k) v) (gp c k y) := by
  unfold putK gp
  rw [h.any k]
  split
  · exact h.repl a
  · exact h.app (.cons a .nil)
end
end Yk

set_option maxHeartbeats 16000000
namespace Yk
open PySem PySem.Spec PyProof.Rows L2

local macro_rules | `(tactic| walk_at "st") => `(tactic| first
  | with_reducible refine' r_tAt ?_
  | ((with_reducible refine' r_fld ?h1 ?h2 ?h3); (case h1 => first | assumption | exact upd_same); (case h2 => first | walk_at "lk" | rfl))
  | with_reducible refine' r_sAt ?_
  | ((with_reducible refine' r_putU ?h1 ?h2); (case h1 => (repeat refine putF_lt ?_); decide))
  | ((with_reducible refine' r_put ?h1 ?h2 ?h3); (case h1 => first | assumption | exact upd_same); (case h2 => (repeat refine putF_lt ?_); decide))
  | with_reducible refine' r_tMt ?_
  | ((with_reducible refine' r_met ?h1 ?h2 ?h3); (case h1 => first | assumption | exact upd_same); (case h2 => first | walk_at "lk" | rfl))
  | with_reducible refine' r_tCr ?_
  | with_reducible refine' r_tCrK ?_
  | with_reducible refine' r_chain ?_)
local macro_rules | `(tactic| walk_at "st") => `(tactic| first
  | with_reducible refine' r_dget ?_
  | with_reducible refine' r_dc ?_
  | with_reducible refine' r_iVals ?_
  | with_reducible refine' r_dnotin ?_
  | with_reducible refine' r_din ?_
  | with_reducible refine' r_iItems ?_
  | with_reducible refine' r_iKeysT ?_
  | with_reducible refine' r_tget1 ?_
  | with_reducible refine' r_tget2 ?_
  | with_reducible refine' r_dput ?_
  | with_reducible refine' r_tPr ?_
  | ((with_reducible refine' r_prp2 ?h1 ?h2); (case h1 => first | assumption | exact upd_same))
  | with_reducible refine' r_par3 ?_
  | ((with_reducible refine' r_dnT ?_); (intro np hnp))
  | ((with_reducible refine' r_dnK ?_); (intro np hnp)))
/-! Rows of flows that the law draws. -/
theorem ManIs.f {S : List Addr} {K : PySem.W.Frag} {H H1 : Hp} {v : V} {man : Option (Rat × Rat)} (e : Ext S H H1) (hs : NoTup H S) (h : ManIs K H v man) : ManIs K H1 v man := by
  cases man with
  | none => obtain ⟨t, rfl, h⟩ := h; exact ⟨t, rfl, tupF e h hs⟩
  | some p => obtain ⟨t, v1, v2, rfl, h, a1, a2⟩ := h; exact ⟨t, v1, v2, rfl, tupF e h hs, a1.f e hs, a2.f e hs⟩
theorem AmsF {S : List Addr} {K : PySem.W.Frag} {H H1 : Hp} {vs : List V} {qs : List Rat} (e : Ext S H H1) (hs : NoTup H S) (h : Ams K H vs qs) : Ams K H1 vs qs := ⟨h.1, fun i v q a b => (h.2 i v q a b).f e hs⟩
theorem SizeIs.f {S : List Addr} {K : PySem.W.Frag} {H H1 : Hp} {v : V} {z : SizeD} (e : Ext S H H1) (hs : NoTup H S) (h : SizeIs K H v z) : SizeIs K H1 v z := by
  cases z with
  | no => exact h
  | win q => exact ⟨h.1.f e hs, h.2⟩
  | tries n => exact h
theorem SizeIs.b {K : PySem.W.Frag} {H H1 : Hp} {b : Bag} {v : V} {z : SizeD} (hb : BagAt K H b) (e : Ext [b.a] H H1) (h : SizeIs K H v z) : SizeIs K H1 v z := by
  cases z with
  | no => exact h
  | win q => exact ⟨h.1.b hb e, h.2⟩
  | tries n => exact h
def RW (n : Str) (vr : V) (d : Str) (w : Int) : List (Key × V) := [(.inr "name", .str n), (.inr "route", vr), (.inr "kind", .str d), (.inr "w", .int w)]
def RowFs (n : Str) (vr : V) (d : Str) (w y : Int) (vg vG vD vm : V) (o : Bool) (vz vb : V) : List (Key × V) :=
  [(.inr "name", .str n), (.inr "route", vr), (.inr "kind", .str d), (.inr "w", .int w), (.inr "way", .int y), (.inr "g", vg), (.inr "G", vG), (.inr "door", vD), (.inr "wish", vm), (.inr "odd", .bl o), (.inr "size", vz), (.inr "bufs", vb)]
theorem putK_new {l : List (Key × V)} {k : Key} {v : V} (h : (l.any fun kv => decide (kv.1 = k)) = false) : putK l k v = l ++ [(k, v)] := by
  unfold putK
  rw [h]
  rfl
section
variable {n d : Str} {vr vg vG vD vm vz vb v : V} {w y : Int} {o : Bool}
theorem rv_name : valV (RowFs n vr d w y vg vG vD vm o vz vb) (.inr "name") = some (.str n) := by kernel_rfl
theorem rv_route : valV (RowFs n vr d w y vg vG vD vm o vz vb) (.inr "route") = some vr := by kernel_rfl
theorem rv_kind : valV (RowFs n vr d w y vg vG vD vm o vz vb) (.inr "kind") = some (.str d) := by kernel_rfl
theorem rv_w : valV (RowFs n vr d w y vg vG vD vm o vz vb) (.inr "w") = some (.int w) := by kernel_rfl
theorem rv_way : valV (RowFs n vr d w y vg vG vD vm o vz vb) (.inr "way") = some (.int y) := by kernel_rfl
theorem rv_g : valV (RowFs n vr d w y vg vG vD vm o vz vb) (.inr "g") = some vg := by kernel_rfl
theorem rv_G : valV (RowFs n vr d w y vg vG vD vm o vz vb) (.inr "G") = some vG := by kernel_rfl
theorem rv_door : valV (RowFs n vr d w y vg vG vD vm o vz vb) (.inr "door") = some vD := by kernel_rfl
theorem rv_wish : valV (RowFs n vr d w y vg vG vD vm o vz vb) (.inr "wish") = some vm := by kernel_rfl
theorem rv_odd : valV (RowFs n vr d w y vg vG vD vm o vz vb) (.inr "odd") = some (.bl o) := by kernel_rfl
theorem rv_size : valV (RowFs n vr d w y vg vG vD vm o vz vb) (.inr "size") = some vz := by kernel_rfl
theorem rv_bufs : valV (RowFs n vr d w y vg vG vD vm o vz vb) (.inr "bufs") = some vb := by kernel_rfl
theorem rp_G : putK (RowFs n vr d w y vg vG vD vm o vz vb) (.inr "G") v = RowFs n vr d w y vg v vD vm o vz vb := by kernel_rfl
theorem rp_door : putK (RowFs n vr d w y vg vG vD vm o vz vb) (.inr "door") v = RowFs n vr d w y vg vG v vm o vz vb := by kernel_rfl
theorem rp_wish : putK (RowFs n vr d w y vg vG vD vm o vz vb) (.inr "wish") v = RowFs n vr d w y vg vG vD v o vz vb := by kernel_rfl
theorem rp_size : putK (RowFs n vr d w y vg vG vD vm o vz vb) (.inr "size") v = RowFs n vr d w y vg vG vD vm o v vb := by kernel_rfl
theorem rp_bufs : putK (RowFs n vr d w y vg vG vD vm o vz vb) (.inr "bufs") v = RowFs n vr d w y vg vG vD vm o vz v := by kernel_rfl
theorem rq_way : putK (RW n vr d w) (.inr "way") v = RW n vr d w ++ [(.inr "way", v)] := by kernel_rfl
theorem rq_g {v1 : V} : putK (RW n vr d w ++ [(.inr "way", v1)]) (.inr "g") v = RW n vr d w ++ [(.inr "way", v1), (.inr "g", v)] := by kernel_rfl
theorem rq_G {v1 v2 : V} : putK (RW n vr d w ++ [(.inr "way", v1), (.inr "g", v2)]) (.inr "G") v = RW n vr d w ++ [(.inr "way", v1), (.inr "g", v2), (.inr "G", v)] := by kernel_rfl
theorem rq_door {v1 v2 v3 : V} : putK (RW n vr d w ++ [(.inr "way", v1), (.inr "g", v2), (.inr "G", v3)]) (.inr "door") v = RW n vr d w ++ [(.inr "way", v1), (.inr "g", v2), (.inr "G", v3), (.inr "door", v)] := by kernel_rfl
theorem rq_wish {v1 v2 v3 v4 : V} : putK (RW n vr d w ++ [(.inr "way", v1), (.inr "g", v2), (.inr "G", v3), (.inr "door", v4)]) (.inr "wish") v = RW n vr d w ++ [(.inr "way", v1), (.inr "g", v2), (.inr "G", v3), (.inr "door", v4), (.inr "wish", v)] := by kernel_rfl
theorem rq_odd {v1 v2 v3 v4 v5 : V} : putK (RW n vr d w ++ [(.inr "way", v1), (.inr "g", v2), (.inr "G", v3), (.inr "door", v4), (.inr "wish", v5)]) (.inr "odd") v = RW n vr d w ++ [(.inr "way", v1), (.inr "g", v2), (.inr "G", v3), (.inr "door", v4), (.inr "wish", v5), (.inr "odd", v)] := by kernel_rfl
theorem rq_size {v1 v2 v3 v4 v5 v6 : V} : putK (RW n vr d w ++ [(.inr "way", v1), (.inr "g", v2), (.inr "G", v3), (.inr "door", v4), (.inr "wish", v5), (.inr "odd", v6)]) (.inr "size") v = RW n vr d w ++ [(.inr "way", v1), (.inr "g", v2), (.inr "G", v3), (.inr "door", v4), (.inr "wish", v5), (.inr "odd", v6), (.inr "size", v)] := by kernel_rfl
theorem rq_bufs : putK (RW n vr d w ++ [(.inr "way", .int y), (.inr "g", vg), (.inr "G", vG), (.inr "door", vD), (.inr "wish", vm), (.inr "odd", .bl o), (.inr "size", vz)]) (.inr "bufs") v = RowFs n vr d w y vg vG vD vm o vz v := by kernel_rfl
theorem rg_G4 {v1 v2 v3 : V} : valV (RW n vr d w ++ [(.inr "way", v1), (.inr "g", v2), (.inr "G", v3)]) (.inr "G") = some v3 := by kernel_rfl
theorem rg_g5 {v1 v2 v3 v4 : V} : valV (RW n vr d w ++ [(.inr "way", v1), (.inr "g", v2), (.inr "G", v3), (.inr "door", v4)]) (.inr "g") = some v2 := by kernel_rfl
theorem rg_G5 {v1 v2 v3 v4 : V} : valV (RW n vr d w ++ [(.inr "way", v1), (.inr "g", v2), (.inr "G", v3), (.inr "door", v4)]) (.inr "G") = some v3 := by kernel_rfl
end
theorem gv_mem {κ α : Type} [DecidableEq κ] {c : List (κ × α)} {k : κ} {y : α} (h : gv c k = some y) : (k, y) ∈ c := by
  unfold gv at h
  obtain ⟨p, hp, rfl⟩ := Option.map_eq_some_iff.mp h
  have h1 := List.find?_some hp
  have h2 := List.mem_of_find?_eq_some hp
  have h3 : p.1 = k := of_decide_eq_true h1
  rw [← h3]
  exact h2
theorem putK_old {l : List (Key × V)} {k : Key} {v u : V} (h : valV l k = some u) : (putK l k v).length = l.length := by
  unfold putK
  rw [valV_any, h]
  simp
/-- what the rows' making keeps -/
structure FS (K : PySem.W.Frag) (H0 H : Hp) (b : Bag) (l d : Addr) (rs : List Str) (L : List (Key × V)) (vals : List V) (qs : List Rat) (wm : List (V × Option (Rat × Rat))) (ls : List (Addr × List V)) : Prop where
  bag : BagAt K H b
  row : H d = some (.dK L)
  nld : l ≠ d
  ams : Ams K H vals qs
  mn : ∀ p ∈ wm, ManIs K H p.1 p.2
  lst : ∀ p ∈ ls, SqL K H p.1 p.2 ∧ b.a ≠ p.1
  lf : ∃ kv c, H l = some (.dK kv) ∧ kv.length ≤ 100 ∧ TR (Am K H) kv c ∧ (∀ p ∈ c, In 30 1000 p.2) ∧ ∀ r ∈ rs, ∃ q, gv c (.inr r) = some q
  fr : H0 d = none
  ext : Ext [b.a, l, d] H0 H
section
variable {K : PySem.W.Frag} {H0 H H1 : Hp} {b : Bag} {l d : Addr} {rs : List Str} {L L' : List (Key × V)} {vals : List V} {qs : List Rat} {wm : List (V × Option (Rat × Rat))} {ls : List (Addr × List V)} {v : V} {q : Rat}
theorem FS.x0 (h : FS K H0 H b l d rs L vals qs wm ls) (e : Ext [] H H1) : FS K H0 H1 b l d rs L vals qs wm ls := by
  obtain ⟨kv, c, h1, h100, h2, h3⟩ := h.lf
  exact ⟨h.bag.x0 e, e _ _ h.row (fun z => nomatch z), h.nld, h.ams.x0 e, fun p hp => (h.mn p hp).x0 e, fun p hp => ⟨lst0 e (h.lst p hp).1, (h.lst p hp).2⟩, ⟨kv, c, e _ _ h1 (fun z => nomatch z), h100, h2.imp fun v y a => a.x0 e, h3⟩, h.fr, h.ext.trans e.of0⟩
theorem FS.bg (h : FS K H0 H b l d rs L vals qs wm ls) (b1 : BagAt K H1 b) (e : Ext [b.a] H H1) : FS K H0 H1 b l d rs L vals qs wm ls := by
  obtain ⟨kv, c, h1, h100, h2, h3⟩ := h.lf
  have nd := bag_ne_dk h.bag h.row
  have nl := bag_ne_dk h.bag h1
  exact ⟨b1, e _ _ h.row (fun z => nd (List.mem_singleton.mp z)), h.nld, h.ams.b h.bag e, fun p hp => ManIs.x e (h.mn p hp) (fun a ha => by rw [List.mem_singleton.mp ha]; exact h.bag.lst), fun p hp => ⟨lstX e (h.lst p hp).1 fun z => (h.lst p hp).2 (List.mem_singleton.mp z).symm, (h.lst p hp).2⟩, ⟨kv, c, e _ _ h1 (fun z => nl (List.mem_singleton.mp z)), h100, h2.imp fun v y a => a.b h.bag e, h3⟩, h.fr, h.ext.trans (e.mono fun x hx => by rw [List.mem_singleton.mp hx]; exact List.mem_cons_self)⟩
theorem FS.put (h : FS K H0 H b l d rs L vals qs wm ls) : FS K H0 (upd H d (.dK L')) b l d rs L' vals qs wm ls := by
  obtain ⟨kv, c, h1, h100, h2, h3⟩ := h.lf
  have e : Ext [d] H (upd H d (.dK L')) := Ext.refl.at_ List.mem_cons_self
  have n := no_dk h.row
  exact ⟨h.bag.f e n.2, upd_same, h.nld, AmsF e n.1 h.ams, fun p hp => (h.mn p hp).f e n.1, fun p hp => ⟨lstF e (h.lst p hp).1 n.2, (h.lst p hp).2⟩, ⟨kv, c, e _ _ h1 (fun z => h.nld (List.mem_singleton.mp z)), h100, h2.imp fun v y a => a.f e n.1, h3⟩, h.fr, h.ext.trans (e.mono fun x hx => by rw [List.mem_singleton.mp hx]; simp)⟩
theorem FS.left {kv kv' : List (Key × V)} {c' : List (Key × Rat)} (h : FS K H0 H b l d rs L vals qs wm ls) (h1 : H l = some (.dK kv)) (h100 : kv'.length ≤ 100) (h2 : TR (Am K H) kv' c') (h3 : ∀ p ∈ c', In 30 1000 p.2) (h4 : ∀ r ∈ rs, ∃ q, gv c' (.inr r) = some q) : FS K H0 (upd H l (.dK kv')) b l d rs L vals qs wm ls := by
  have e : Ext [l] H (upd H l (.dK kv')) := Ext.refl.at_ List.mem_cons_self
  have n := no_dk h1
  exact ⟨h.bag.f e n.2, by rw [upd_ne h.nld.symm]; exact h.row, h.nld, AmsF e n.1 h.ams, fun p hp => (h.mn p hp).f e n.1, fun p hp => ⟨lstF e (h.lst p hp).1 n.2, (h.lst p hp).2⟩, ⟨kv', c', upd_same, h100, h2.imp fun v y a => a.f e n.1, h3, h4⟩, h.fr, h.ext.trans (e.mono fun x hx => by rw [List.mem_singleton.mp hx]; simp)⟩
theorem FS.add (h : FS K H0 H b l d rs L vals qs wm ls) (a : Am K H v q) : FS K H0 H b l d rs L (v :: vals) (q :: qs) wm ls := ⟨h.bag, h.row, h.nld, Ams.cons a h.ams, h.mn, h.lst, h.lf, h.fr, h.ext⟩
theorem FS.addM {man : Option (Rat × Rat)} (h : FS K H0 H b l d rs L vals qs wm ls) (a : ManIs K H v man) : FS K H0 H b l d rs L vals qs ((v, man) :: wm) ls := ⟨h.bag, h.row, h.nld, h.ams, fun p hp => (List.mem_cons.mp hp).elim (fun z => by rw [z]; exact a) (h.mn p), h.lst, h.lf, h.fr, h.ext⟩
theorem FS.addL {p : Addr} {xs : List V} (h : FS K H0 H b l d rs L vals qs wm ls) (a : SqL K H p xs) (hn : b.a ≠ p) : FS K H0 H b l d rs L vals qs wm ((p, xs) :: ls) := ⟨h.bag, h.row, h.nld, h.ams, h.mn, fun p hp => (List.mem_cons.mp hp).elim (fun z => by rw [z]; exact ⟨a, hn⟩) (h.lst p), h.lf, h.fr, h.ext⟩
theorem FS.am (h : FS K H0 H b l d rs L vals qs wm ls) (i : Nat) (hv : vals[i]? = some v) (hq : qs[i]? = some q) : Am K H v q := h.ams.2 i v q hv hq
end
end Yk

set_option maxHeartbeats 16000000
namespace Yk
open PySem PySem.Spec PyProof.Rows L2

local macro_rules | `(tactic| walk_at "st") => `(tactic| first
  | with_reducible refine' r_tAt ?_
  | ((with_reducible refine' r_fld ?h1 ?h2 ?h3); (case h1 => first | assumption | exact upd_same); (case h2 => first | walk_at "lk" | rfl))
  | with_reducible refine' r_sAt ?_
  | ((with_reducible refine' r_putU ?h1 ?h2); (case h1 => (repeat refine putF_lt ?_); decide))
  | ((with_reducible refine' r_put ?h1 ?h2 ?h3); (case h1 => first | assumption | exact upd_same); (case h2 => (repeat refine putF_lt ?_); decide))
  | with_reducible refine' r_tMt ?_
  | ((with_reducible refine' r_met ?h1 ?h2 ?h3); (case h1 => first | assumption | exact upd_same); (case h2 => first | walk_at "lk" | rfl))
  | with_reducible refine' r_tCr ?_
  | with_reducible refine' r_tCrK ?_
  | with_reducible refine' r_chain ?_)
local macro_rules | `(tactic| walk_at "st") => `(tactic| first
  | with_reducible refine' r_dget ?_
  | with_reducible refine' r_dc ?_
  | with_reducible refine' r_iVals ?_
  | with_reducible refine' r_dnotin ?_
  | with_reducible refine' r_din ?_
  | with_reducible refine' r_iItems ?_
  | with_reducible refine' r_iKeysT ?_
  | with_reducible refine' r_tget1 ?_
  | with_reducible refine' r_tget2 ?_
  | with_reducible refine' r_dput ?_
  | with_reducible refine' r_tPr ?_
  | ((with_reducible refine' r_prp2 ?h1 ?h2); (case h1 => first | assumption | exact upd_same))
  | with_reducible refine' r_par3 ?_
  | ((with_reducible refine' r_dnT ?_); (intro np hnp))
  | ((with_reducible refine' r_dnK ?_); (intro np hnp)))
/-! The row of a flow. -/
section
variable {nx : L2.St → Hp → Prop} {rt : VK} {bk ct : L2.St → Hp → Prop} {σ : L2.St} {H : Hp} {Q : VK} {trs : List (TE × TE)} {tk tv : TE} {R : List (V × V) → Hp → Prop}
theorem r_disp (h : ∀ p, H p = none → tPairs trs σ (upd H p (.dK [])) fun ps H2 => H2 p = some (.dK []) ∧ ∃ kvs : List (Key × V), ps = kvs.map (fun kv => (kV kv.1, kv.2)) ∧ kvs.length ≤ 15 ∧ Q (.ref p) (upd H2 p (.dK (mergeK [] kvs)))) : tDisp trs σ H Q := h
theorem r_prC (h : tk σ H fun x H1 => tv σ H1 fun y H2 => tPairs trs σ H2 fun ps H3 => R ((x, y) :: ps) H3) : tPairs ((tk, tv) :: trs) σ H R := h
theorem r_prN (h : R [] H) : tPairs [] σ H R := h
end
local macro_rules | `(tactic| walk_at "st") => `(tactic| first
  | with_reducible refine' r_prC ?_
  | with_reducible refine' r_prN ?_)
/-- a row in the heap: a flow's data; least, cap, door: l, c, g -/
def FRowAt (K : PySem.W.Frag) (H : Hp) (b : Bag) (d : Addr) (F : FlowD) : Prop := ∃ (ra ba : Addr) (xs : List V) (vz vg vG vD vm : V), H d = some (.dK (RowFs F.n (.ref ra) F.d F.w F.y vg vG vD vm F.b vz (.ref ba))) ∧
  SqL K H ra (F.rs.map V.str) ∧ SqL K H ba xs ∧ b.a ≠ ra ∧ b.a ≠ ba ∧ Ams K H xs F.bs ∧ SizeIs K H vz F.z ∧ Am K H vg F.l ∧ Am K H vG F.c ∧ Am K H vD F.g ∧ ManIs K H vm F.man
structure FRowOk (F : FlowD) : Prop where
  ok : FlowOk F
  il : In 30 1000 F.l
  ic : In 30 1000 F.c
  ig : In 30 1000 F.g
  iz : ∀ q, F.z = .win q → In 30 1000 q
  im : ∀ p, F.man = some p → In 27000 1000 p.1 ∧ In 27000 1000 p.2
def spFlow (K : PySem.W.Frag) : Sp := fun vs H Q _ => ∃ (b : Bag) (s : Str) (ra l ka : Addr) (rs ks : List Str) (kv : List (Key × V)) (c : List (Key × Rat)) (wild : Bool), vs = [.ref b.a, .str s, .ref ra, .ref l, .ref ka, .bl wild] ∧ BagAt K H b ∧ NmS s ∧ RouteOk rs ∧ SqL K H ra (rs.map V.str) ∧ b.a ≠ ra ∧
  SqL K H ka (ks.map V.str) ∧ b.a ≠ ka ∧ 0 < ks.length ∧ ks.length ≤ 4000 ∧ (∀ k ∈ ks, k = "level" ∨ k = "eager" ∨ k = "window" ∨ k = "probe") ∧ H l = some (.dK kv) ∧ kv.length ≤ 100 ∧ TR (Am K H) kv c ∧ (∀ p ∈ c, In 30 1000 p.2) ∧ (∀ r ∈ rs, ∃ q, gv c (.inr r) = some q) ∧
  ∀ (d : Addr) (F : FlowD) H', FRowOk F → F.n = s → F.rs = rs → F.d ∈ ks → (wild = false → F.b = false) → FRowAt K H' b d F → H d = none → BagAt K H' b → Ext [b.a, l] H H' → Q (.ref d) H'
section
variable {P : Program} {w : World} {K : PySem.W.Frag} {mg : Str → Option Value} {base : Heap} {f : Addr} {fd : FuncData}
abbrev s_law_flow : Stmt := top 69
theorem c_law_flow : FnScope ["_law_bag_here", "_law_called", "_law_route", "_law_left", "_law_kinds", "_law_wild", "_law_row", "_law_least_left", "_law_one", "_law_part_here", "_law_menu"] ["_law_bag_here", "_law_called", "_law_route", "_law_left", "_law_kinds", "_law_wild"] (defScope s_law_flow) := ⟨rfl, rfl, rfl, by decide +kernel, rfl, by decide +kernel, by decide +kernel⟩
theorem f_law_flow (F : FunD K "_law_flow" "_law_flow" (defArgs s_law_flow) (defBody s_law_flow) (defScope s_law_flow) [] [] f fd) (hm : mg "_law_flow" = some (.ref f)) (T : Bt mg) (F_law_draw : Fn P w K mg base 1 "_law_draw" (spDraw K)) (F_law_of : Fn P w K mg base 2 "_law_of" (spOf K)) (G_law_some : Fn P w K mg base 3 "_law_some" (spSome5 K)) (F_law_part : Fn P w K mg base 3 "_law_part" (spPart K)) (F_law_sum : Fn P w K mg base 2 "_law_sum" (sp2 (fun _ _ => True) (· + ·) K)) (F_law_rest : Fn P w K mg base 2 "_law_rest" (sp2 (fun _ _ => True) restQ K)) (F_law_min : Fn P w K mg base 2 "_law_min" (sp2 (fun _ _ => True) lmin K)) (F_law_less : Fn P w K mg base 1 "_law_less" (spLess K)) (F_law_above : Fn P w K mg base 4 "_law_above" (spAbove K)) (F_law_wish : Fn P w K mg base 4 "_law_wish" (spWish K)) : Fn P w K mg base 5 "_law_flow" (spFlow K) := by
  refine fn_def F hm c_law_flow (fun vs H Q E h => ?_) (fun _ _ _ _ _ _ us hl => match us, hl with | [_, _, _, _, _, _], _ => rfl) (fun cdv A outer s H vs Q E hr h => ?_)
  · obtain ⟨b, s, ra, l, ka, rs, ks, kv, c, wild, rfl, _⟩ := h
    rfl
  · obtain ⟨b, s, ra, l, ka, rs, ks, kv, c, wild, rfl, hb, hs, ok, hra, nra, hka, nka, k0, k4, hk, hl, h100, htr, hc, hcov, k⟩ := h
    have nd := c_law_flow.nd
    refine ⟨_, (pss_cons (ps_set (i := 6) nd rfl (by first | exact Or.inl rfl | exact Or.inr rfl) (pe_disp (pps_cons pe_str (pv 1) (pps_cons pe_str (pv 2) (pps_cons pe_str (pe_fn F_law_of (hr.mono (by decide)) (pa_cons (pv 0) (pa_cons (pv 4) pa_nil))) (pps_cons pe_str (pe_fn F_law_of (hr.mono (by decide)) (pa_cons (pv 0) (pa_cons (pe_lst (pa_cons pe_int (pa_cons pe_int (pa_cons pe_int (pa_cons pe_int (pa_cons pe_int (pa_cons pe_int pa_nil))))))) pa_nil))) pps_nil)))) rfl rfl (by simp) (by decide)))
      (pss_cons (ps_dput (hu_of hr) (pv 6) pe_str (pe_op op_add pe_int (pe_fn F_law_draw (hr.mono (by decide)) (pa_cons (pv 0) (pa_cons pe_int pa_nil)))) (by rfl))
      (pss_cons (ps_set (i := 7) nd rfl (by first | exact Or.inl rfl | exact Or.inr rfl) (pe_tup (pa_cons pe_int (pa_cons pe_int pa_nil))))
      (pss_cons (ps_for PassesOwn.never rfl (pi_list (pv 2)) (pg_name (i := 8) nd rfl (by first | exact Or.inl rfl | exact Or.inr rfl))
        (pss_one (ps_set (i := 7) nd rfl (by first | exact Or.inl rfl | exact Or.inr rfl) (pe_fn F_law_min (hr.mono (by decide)) (pa_cons (pv 7) (pa_cons (pe_dget (hu_of hr) (pv 3) (pv 8) (fun _ _ => rfl)) pa_nil))))))
      (pss_cons (ps_set (i := 9) nd rfl (by first | exact Or.inl rfl | exact Or.inr rfl) (pe_fn G_law_some (hr.mono (by decide)) (pa_cons (pv 0) (pa_cons pe_int pa_nil))))
      (pss_mid (ps_if (pt_val (pe_fn F_law_less (hr.mono (by decide)) (pa_cons (pv 7) (pa_cons (pv 9) pa_nil))))
        (pss_one (ps_set (i := 9) nd rfl (by first | exact Or.inl rfl | exact Or.inr rfl) (pe_ifExp (pt_cmpR op_le (pe_ix ix_tup (pv 7) pe_int (fun _ _ => rfl)) pe_int (nomark _)) (pv 7) (pe_tup (pa_cons pe_int (pa_cons pe_int pa_nil))))))
        pss_nil)
      (pss_cons (ps_for PassesOwn.never rfl (pi_list (pv 2)) (pg_name (i := 8) nd rfl (by first | exact Or.inl rfl | exact Or.inr rfl))
        (pss_one (ps_dput (hu_of hr) (pv 3) (pv 8) (pe_fn F_law_rest (hr.mono (by decide)) (pa_cons (pe_dget (hu_of hr) (pv 3) (pv 8) (fun _ _ => rfl)) (pa_cons (pv 9) pa_nil))) (by rfl))))
      (pss_cons (ps_dput (hu_of hr) (pv 6) pe_str (pv 9) (by rfl))
      (pss_mid (ps_dput (hu_of hr) (pv 6) pe_str (pe_ifExp (pt_cmpR op_eq (pe_fn F_law_draw (hr.mono (by decide)) (pa_cons (pv 0) (pa_cons pe_int pa_nil))) pe_int (nomark _)) (pe_fn F_law_above (hr.mono (by decide)) (pa_cons (pv 0) (pa_cons (pv 9) pa_nil))) (pe_tup (pa_cons pe_int (pa_cons pe_int pa_nil)))) (by rfl))
      (pss_cons (ps_dput (hu_of hr) (pv 6) pe_str (pe_fn F_law_above (hr.mono (by decide)) (pa_cons (pv 0) (pa_cons (pe_dget (hu_of hr) (pv 6) pe_str (fun _ _ => rfl)) pa_nil))) (by rfl))
      (pss_cons (ps_dput (hu_of hr) (pv 6) pe_str (pe_fn F_law_wish (hr.mono (by decide)) (pa_cons (pv 0) (pa_cons (pv 6) pa_nil))) (by rfl))
      (pss_mid (ps_dput (hu_of hr) (pv 6) pe_str (pe_and (pv 5) (pe_one (pe_cmpR op_eq (pe_fn F_law_draw (hr.mono (by decide)) (pa_cons (pv 0) (pa_cons pe_int pa_nil))) pe_int (nomark _)))) (by rfl))
      (pss_cons (ps_dput (hu_of hr) (pv 6) pe_str pe_non (by rfl))
      (pss_cons (ps_set (i := 10) nd rfl (by first | exact Or.inl rfl | exact Or.inr rfl) (pe_lst (pa_cons (pe_fn G_law_some (hr.mono (by decide)) (pa_cons (pv 0) (pa_cons pe_int pa_nil))) (pa_cons (pe_fn G_law_some (hr.mono (by decide)) (pa_cons (pv 0) (pa_cons pe_int pa_nil))) (pa_cons (pe_tup (pa_cons pe_int (pa_cons pe_int pa_nil))) (pa_cons (pe_tup (pa_cons pe_int (pa_cons pe_int pa_nil))) (pa_cons (pe_tup (pa_cons pe_int (pa_cons pe_int pa_nil))) pa_nil)))))))
      (pss_cons (ps_dput (hu_of hr) (pv 6) pe_str (pe_lc (own := [("_law_one", 8)]) (g := gName 8) rfl nd (pi_list (pv 2)) (blkOk_by (N := ["_law_bag_here", "_law_called", "_law_route", "_law_left", "_law_kinds", "_law_wild", "_law_row", "_law_least_left", "_law_one", "_law_part_here", "_law_menu"]) (sc := defScope s_law_flow) (by decide +kernel)) (fun _ _ _ _ _ => pg_name (i := 8) nd rfl (Or.inl rfl)) (fun _ _ _ _ _ => pts_nil) (fun _ _ _ _ _ => (pe_fn F_law_of (hr.mono (by decide)) (pa_cons (pv 0) (pa_cons (pv 10) pa_nil))))) (by rfl))
      (pss_mid (ps_if (pt_cmpR op_eq (pe_dget (hu_of hr) (pv 6) pe_str (fun _ _ => rfl)) pe_str (nomark _))
        (pss_cons (ps_dput (hu_of hr) (pv 6) pe_str (pe_fn F_law_of (hr.mono (by decide)) (pa_cons (pv 0) (pa_cons (pe_lst (pa_cons (pe_fn G_law_some (hr.mono (by decide)) (pa_cons (pv 0) (pa_cons pe_int pa_nil))) (pa_cons (pe_tup (pa_cons pe_int (pa_cons pe_int pa_nil))) (pa_cons (pe_tup (pa_cons pe_int (pa_cons pe_int pa_nil))) (pa_cons (pe_tup (pa_cons pe_int (pa_cons pe_int pa_nil))) pa_nil))))) pa_nil))) (by rfl))
        (pss_one (ps_dput (hu_of hr) (pv 6) pe_str (pe_lc (own := [("_law_one", 8)]) (g := gName 8) rfl nd (pi_list (pe_dget (hu_of hr) (pv 6) pe_str (fun _ _ => rfl))) (blkOk_by (N := ["_law_bag_here", "_law_called", "_law_route", "_law_left", "_law_kinds", "_law_wild", "_law_row", "_law_least_left", "_law_one", "_law_part_here", "_law_menu"]) (sc := defScope s_law_flow) (by decide +kernel)) (fun _ _ _ _ _ => pg_name (i := 8) nd rfl (Or.inl rfl)) (fun _ _ _ _ _ => pts_nil) (fun _ _ _ _ _ => (pe_fn F_law_sum (hr.mono (by decide)) (pa_cons (pe_dget (hu_of hr) (pv 6) pe_str (fun _ _ => rfl) : PE _ _ (tDGet _ _)) (pa_cons (pe_fn F_law_part (hr.mono (by decide)) (pa_cons (pv 0) (pa_cons (pv 8) pa_nil))) pa_nil))))) (by rfl))))
        pss_nil)
      (pss_cons (ps_if (pt_cmpR op_eq (pe_dget (hu_of hr) (pv 6) pe_str (fun _ _ => rfl)) pe_str (nomark _))
        (pss_one (ps_dput (hu_of hr) (pv 6) pe_str (pe_op op_add pe_int (pe_fn F_law_draw (hr.mono (by decide)) (pa_cons (pv 0) (pa_cons pe_int pa_nil)))) (by rfl)))
        pss_nil)
      (pss_one (ps_ret (pv 6)))))))))))))))))))), ?_⟩
    show (_ : TS) _ [some _, some _, some _, some _, some _, some _, none, none, none, none, none] _
    try dsimp only [cxOf, Cx.nox]
    walk_at "go"
    refine r_disp fun d hd => ?_
    have nld : l ≠ d := fun z => by rw [z, hd] at hl; cases hl
    have e0 : Ext [] H (upd H d (.dK [])) := Ext.refl.new hd
    have S0 : FS K H (upd H d (.dK [])) b l d rs [] [] [] [] [(ra, rs.map V.str), (ka, ks.map V.str)] := ⟨hb.x0 e0, upd_same, nld, Ams.nil, (fun _ z => nomatch z), fun p hp => by
      simp only [List.mem_cons, List.not_mem_nil, or_false] at hp
      rcases hp with rfl | rfl
      · exact ⟨lst0 e0 hra, nra⟩
      · exact ⟨lst0 e0 hka, nka⟩, ⟨kv, c, e0 _ _ hl (fun z => nomatch z), h100, htr.imp fun v y a => a.x0 e0, hc, hcov⟩, hd, e0.of0⟩
    walk_at "go"
    refine of_strN S0.bag (S0.lst (ka, _) (by simp)).1 nka k0 k4 fun kd H1 hkd b1 n1 => ?_
    have S1 := S0.bg b1 n1
    walk_at "go"
    rename_i p hp
    have S2 := S1.x0 (Ext.refl.new (o := .lst [V.int 1, V.int 2, V.int 3, V.int 1, V.int 5, V.int 12]) hp)
    refine of_intN (ns := [1, 2, 3, 1, 5, 12]) S2.bag lstS (S1.bag.ne hp) (by decide) (by decide) fun x H2 hx b2 n2 => ?_
    have S3 := S2.bg b2 n2
    clear S0 S1 S2
    have hw : 1 ≤ x ∧ x ≤ 12 := by
      simp only [List.mem_cons, List.not_mem_nil, or_false] at hx
      omega
    walk_at "go"
    refine ⟨S3.row, [(.inr "name", .str s), (.inr "route", .ref ra), (.inr "kind", .str kd), (.inr "w", .int x)], rfl, (show 4 ≤ 15 by decide), ?_⟩
    rw [show mergeK [] [(.inr "name", .str s), (.inr "route", .ref ra), (.inr "kind", .str kd), (.inr "w", .int x)] = RW s (.ref ra) kd x by kernel_rfl]
    have S4 : FS K H (upd H2 d (.dK (RW s (.ref ra) kd x))) b l d rs _ _ _ _ _ := S3.put
    generalize upd H2 d (.dK (RW s (.ref ra) kd x)) = H3 at *
    clear S3 b2 n2 b1 n1 hp
    walk_at "go"
    refine k_draw S4.bag (by omega) (by decide) fun y H4 y0 y1 b4 n4 => ?_
    have S5 := S4.bg b4 n4
    clear S4
    walk_at "go"
    refine r_putS S5.row (show 4 < 1000 by decide) ?_
    rw [rq_way]
    have S6 : FS K H (upd H4 d (.dK (RW s (.ref ra) kd x ++ [(.inr "way", .int (1 + y))]))) b l d rs _ _ _ _ _ := S5.put
    generalize upd H4 d (.dK (RW s (.ref ra) kd x ++ [(.inr "way", .int (1 + y))])) = H5 at *
    clear S5 b4 n4
    walk_at "go"
    rename_i pt hpt
    have S7 := (S6.x0 (Ext.refl.new (o := .tup [.int 1000, .int 1]) hpt)).add (v := .ref pt) (q := 1000) ⟨pt, rfl, tupS⟩
    generalize upd H5 pt (.tup [.int 1000, .int 1]) = H6 at *
    clear S6 hpt
    have hrs : ∀ (i : Nat) (x : V), (rs.map V.str)[i]? = some x → ∃ r, r ∈ rs ∧ x = .str r := fun i x hx => by
      rw [List.getElem?_map] at hx
      obtain ⟨r, hr, rfl⟩ := Option.map_eq_some_iff.mp hx
      exact ⟨r, List.mem_of_getElem? hr, rfl⟩
    have lft : ∀ {H' : Hp} {L vals qs wm ls} (S : FS K H H' b l d rs L vals qs wm ls) (r : Str), r ∈ rs → ∃ kv c v q, H' l = some (.dK kv) ∧ kv.length ≤ 100 ∧ TR (Am K H') kv c ∧ (∀ p ∈ c, In 30 1000 p.2) ∧ (∀ r ∈ rs, ∃ q, gv c (.inr r) = some q) ∧ valV kv (.inr r) = some v ∧ Am K H' v q ∧ In 30 1000 q := fun S r hr => by
      obtain ⟨kv, c, h1, h2, h3, h4, h5⟩ := S.lf
      obtain ⟨q, hq⟩ := h5 r hr
      rcases h3.val (.inr r) with ⟨_, z⟩ | ⟨v, q', e1, e2, e3⟩
      · rw [hq] at z; cases z
      · rw [hq] at e2
        cases e2
        exact ⟨kv, c, v, q, h1, h2, h3, h4, h5, e1, e3, h4 _ (gv_mem hq)⟩
    refine r_forL rfl (S7.lst (ra, rs.map V.str) (by simp)).1 (fun i σ H' => ∃ vll ll u8, σ = [some (V.ref b.a), some (V.str s), some (V.ref ra), some (V.ref l), some (V.ref ka), some (V.bl wild), some (V.ref d), some vll, u8, none, none] ∧ In 30 1000 ll ∧ FS K H H' b l d rs (RW s (.ref ra) kd x ++ [(.inr "way", .int (1 + y))]) [vll] [ll] [] [(ra, rs.map V.str), (ka, ks.map V.str)]) ⟨_, 1000, _, rfl, In.nat (Nat.le_refl 1000), S7⟩ ?_ ?_ ?_
    · rintro i σ H' _ ⟨_, _, _, _, _, S⟩
      exact (S.lst (ra, rs.map V.str) (by simp)).1
    · clear S7
      rintro i z σ H7 hz ⟨vll, ll, u8, rfl, ill, S⟩
      obtain ⟨r, hr, rfl⟩ := hrs i z hz
      obtain ⟨kv1, c1, v1, q1, f1, f2, f3, f4, f5, f6, f7, f8⟩ := lft S r hr
      walk_at "go"
      refine r_getS f1 f6 ?_
      walk_at "go"
      refine k_two (S.am 0 rfl rfl) f7 (in30z ill z1000) (in30z f8 z1000) ill.nn f8.nn trivial fun vm H8 e8 am => ?_
      walk_at "go"
      have S1 := (S.x0 e8).add am
      exact ⟨vm, _, _, rfl, in_lmin ill f8, S1.bag, S1.row, S1.nld, Ams.cons am Ams.nil, S1.mn, S1.lst, S1.lf, S1.fr, S1.ext⟩
    · clear S7
      rintro σ H7 ⟨vll, ll, u8, rfl, ill, S⟩
      walk_at "go"
      refine k_some5 (M := 3) rfl S.bag (by decide) fun vp qp H8 ap ip dp b8 n8 => ?_
      have S1 := (S.bg b8 n8).add ap
      clear S
      walk_at "go"
      refine r_mid (fun σ' H' => ∃ vll u8 vp qp, σ' = [some (V.ref b.a), some (V.str s), some (V.ref ra), some (V.ref l), some (V.ref ka), some (V.bl wild), some (V.ref d), some vll, u8, some vp, none] ∧ In 30 1000 qp ∧ qp.den ≤ 12 ∧ FS K H H' b l d rs (RW s (.ref ra) kd x ++ [(.inr "way", .int (1 + y))]) [vp] [qp] [] [(ra, rs.map V.str), (ka, ks.map V.str)]) ?_ ?_
      · obtain ⟨al, rfl, hal⟩ := S1.am 1 rfl rfl
        walk_at "go"
        refine ⟨.ref al, vp, ll, qp, rfl, S1.am 1 rfl rfl, S1.am 0 rfl rfl, in30z ill z1000, in30z ip (Nat.le_trans (by decide) z1000), ?_⟩
        walk_at "go"
        refine r_dec (fun _ => ?_) (fun _ => ?_)
        · walk_at "go"
          refine r_dec (fun hd12 => ?_) (fun _ => ?_)
          · walk_at "go"
            exact ⟨_, _, _, ll, rfl, ill, by omega, S1.bag, S1.row, S1.nld, Ams.cons (S1.am 1 rfl rfl) Ams.nil, S1.mn, S1.lst, S1.lf, S1.fr, S1.ext⟩
          · walk_at "go"
            rename_i p hp
            have S2 := S1.x0 (Ext.refl.new (o := .tup [.int 0, .int 1]) hp)
            exact ⟨_, _, _, 0, rfl, In.zero, by decide, S2.bag, S2.row, S2.nld, Ams.cons ⟨p, rfl, tupS⟩ Ams.nil, S2.mn, S2.lst, S2.lf, S2.fr, S2.ext⟩
        · walk_at "go"
          exact ⟨_, _, _, qp, rfl, ip.most (by decide), by omega, S1.bag, S1.row, S1.nld, Ams.cons (S1.am 0 rfl rfl) Ams.nil, S1.mn, S1.lst, S1.lf, S1.fr, S1.ext⟩
      · clear S1 ap ip dp b8 n8 ill
        rintro σ H8 ⟨vll, u8, vp, qp, rfl, ip, dp, S⟩
        walk_at "go"
        refine r_forL rfl (S.lst (ra, rs.map V.str) (by simp)).1 (fun i σ H' => ∃ u8, σ = [some (V.ref b.a), some (V.str s), some (V.ref ra), some (V.ref l), some (V.ref ka), some (V.bl wild), some (V.ref d), some vll, u8, some vp, none] ∧ FS K H H' b l d rs (RW s (.ref ra) kd x ++ [(.inr "way", .int (1 + y))]) [vp] [qp] [] [(ra, rs.map V.str), (ka, ks.map V.str)]) ⟨_, rfl, S⟩ ?_ ?_ ?_
        · rintro i σ H' _ ⟨_, _, S⟩
          exact (S.lst (ra, rs.map V.str) (by simp)).1
        · clear S
          rintro i z σ H9 hz ⟨u8, rfl, S⟩
          obtain ⟨r, hr, rfl⟩ := hrs i z hz
          obtain ⟨kv1, c1, v1, q1, f1, f2, f3, f4, f5, f6, f7, f8⟩ := lft S r hr
          walk_at "go"
          refine r_getS f1 f6 ?_
          walk_at "go"
          refine k_two f7 (S.am 0 rfl rfl) (in30z f8 z1000) (in30z ip z1000) f8.nn ip.nn trivial fun vm H10 e10 am => ?_
          have S1 := S.x0 e10
          have f1' := e10 _ _ f1 fun z => nomatch z
          have irq : In 30 1000 (restQ q1 qp) := by
            unfold restQ
            split
            · exact In.zero
            · rename_i hn
              exact f8.sub ip (Rat.le_of_lt (Rat.not_le.mp hn))
          walk_at "go"
          refine r_putS f1' (by omega) ?_
          walk_at "go"
          refine ⟨_, rfl, S1.left f1' (c' := gp c1 (.inr r) (restQ q1 qp)) (by rw [putK_old f6]; exact f2) ((f3.imp fun v y a => a.x0 e10).put am) (fun p hp => ?_) fun r' hr' => ?_⟩
          · rcases gp_mem hp with h | h
            · rw [h]; exact irq
            · exact f4 p h
          · rw [gv_gp]
            split
            · exact ⟨_, rfl⟩
            · exact f5 r' hr'
        · clear S
          rintro σ H9 ⟨u8, rfl, S⟩
          walk_at "go"
          refine r_putS S.row (show 5 < 1000 by decide) ?_
          rw [rq_g]
          have S1 : FS K H (upd H9 d (.dK (RW s (.ref ra) kd x ++ [(.inr "way", .int (1 + y)), (.inr "g", vp)]))) b l d rs _ _ _ _ _ := S.put
          generalize upd H9 d (.dK (RW s (.ref ra) kd x ++ [(.inr "way", .int (1 + y)), (.inr "g", vp)])) = H10 at *
          clear S
          walk_at "go"
          refine r_mid (fun σ' H' => ∃ u8 vG G, σ' = [some (V.ref b.a), some (V.str s), some (V.ref ra), some (V.ref l), some (V.ref ka), some (V.bl wild), some (V.ref d), some vll, u8, some vp, none] ∧ In 30 1000 G ∧ G.den ≤ 12 ∧ qp ≤ G ∧ FS K H H' b l d rs (RW s (.ref ra) kd x ++ [(.inr "way", .int (1 + y)), (.inr "g", vp), (.inr "G", vG)]) [vG, vp] [G, qp] [] [(ra, rs.map V.str), (ka, ks.map V.str)]) ?_ ?_
          · walk_at "go"
            refine k_draw S1.bag (by omega) (by decide) fun y2 H11 y20 y21 b11 n11 => ?_
            have S2 := S1.bg b11 n11
            clear S1
            walk_at "go"
            refine r_dec (fun _ => ?_) (fun _ => ?_)
            · walk_at "go"
              refine ⟨b, vp, qp, rfl, S2.bag, S2.am 0 rfl rfl, ip, dp, fun vG G H12 aG iG dG hG b12 n12 => ?_⟩
              have S3 := (S2.bg b12 n12).add aG
              walk_at "go"
              refine r_putS S3.row (show 6 < 1000 by decide) ?_
              rw [rq_G]
              walk_at "go"
              exact ⟨_, vG, G, rfl, iG, dG, hG, S3.put⟩
            · walk_at "go"
              rename_i p hp
              have S3 := (S2.x0 (Ext.refl.new (o := .tup [.int 1000, .int 1]) hp)).add (v := .ref p) (q := 1000) ⟨p, rfl, tupS⟩
              walk_at "go"
              refine r_putS S3.row (show 6 < 1000 by decide) ?_
              rw [rq_G]
              walk_at "go"
              exact ⟨_, _, 1000, rfl, In.nat (Nat.le_refl 1000), by decide +kernel, Rat.le_trans ip.le (by norm_cast), S3.put⟩
          · clear S1
            rintro σ H11 ⟨u8, vG, G, rfl, iG, dG, hG, S⟩
            walk_at "go"
            refine r_getS S.row rg_G4 ?_
            walk_at "go"
            refine ⟨b, vG, G, rfl, S.bag, S.am 0 rfl rfl, iG, dG, fun vD D H12 aD iD dD hD b12 n12 => ?_⟩
            have S1 := (S.bg b12 n12).add aD
            clear S
            walk_at "go"
            refine r_putS S1.row (show 7 < 1000 by decide) ?_
            rw [rq_door]
            have S2 : FS K H (upd H12 d (.dK (RW s (.ref ra) kd x ++ [(.inr "way", .int (1 + y)), (.inr "g", vp), (.inr "G", vG), (.inr "door", vD)]))) b l d rs _ _ _ _ _ := S1.put
            generalize upd H12 d (.dK (RW s (.ref ra) kd x ++ [(.inr "way", .int (1 + y)), (.inr "g", vp), (.inr "G", vG), (.inr "door", vD)])) = H13 at *
            clear S1 b12 n12
            walk_at "go"
            refine ⟨b, d, _, vp, vG, qp, G, rfl, S2.bag, S2.row, rg_g5, rg_G5, S2.am 2 rfl rfl, S2.am 1 rfl rfl, ip, iG, hG, fun vm man H14 hm hman b14 n14 => ?_⟩
            have S3 := (S2.bg b14 n14).addM hm
            clear S2
            walk_at "go"
            refine r_putS S3.row (show 8 < 1000 by decide) ?_
            rw [rq_wish]
            have S4 : FS K H (upd H14 d (.dK (RW s (.ref ra) kd x ++ [(.inr "way", .int (1 + y)), (.inr "g", vp), (.inr "G", vG), (.inr "door", vD), (.inr "wish", vm)]))) b l d rs _ _ _ _ _ := S3.put
            generalize upd H14 d (.dK (RW s (.ref ra) kd x ++ [(.inr "way", .int (1 + y)), (.inr "g", vp), (.inr "G", vG), (.inr "door", vD), (.inr "wish", vm)])) = H15 at *
            clear S3 b14 n14
            walk_at "go"
            refine r_mid (fun σ' H' => ∃ u8 o, σ' = [some (V.ref b.a), some (V.str s), some (V.ref ra), some (V.ref l), some (V.ref ka), some (V.bl wild), some (V.ref d), some vll, u8, some vp, none] ∧ (wild = false → o = false) ∧ FS K H H' b l d rs (RW s (.ref ra) kd x ++ [(.inr "way", .int (1 + y)), (.inr "g", vp), (.inr "G", vG), (.inr "door", vD), (.inr "wish", vm), (.inr "odd", .bl o)]) [vD, vG, vp] [D, G, qp] [(vm, man)] [(ra, rs.map V.str), (ka, ks.map V.str)]) ?_ ?_
            · cases wild with
              | false =>
                walk_at "run"
                refine r_putS S4.row (show 9 < 1000 by decide) ?_
                rw [rq_odd]
                walk_at "go"
                exact ⟨_, false, rfl, fun _ => rfl, S4.put⟩
              | true =>
                walk_at "run"
                refine k_draw S4.bag (by omega) (by decide) fun y2 H16 y20 y21 b16 n16 => ?_
                have S5 := S4.bg b16 n16
                walk_at "run"
                refine r_putS S5.row (show 9 < 1000 by decide) ?_
                rw [rq_odd]
                walk_at "go"
                exact ⟨_, _, rfl, (fun z => nomatch z), S5.put⟩
            · clear S4
              rintro σ H16 ⟨u8, o, rfl, ho, S⟩
              walk_at "go"
              refine r_putS S.row (show 10 < 1000 by decide) ?_
              rw [rq_size]
              have S1 : FS K H (upd H16 d (.dK (RW s (.ref ra) kd x ++ [(.inr "way", .int (1 + y)), (.inr "g", vp), (.inr "G", vG), (.inr "door", vD), (.inr "wish", vm), (.inr "odd", .bl o), (.inr "size", .non)]))) b l d rs _ _ _ _ _ := S.put
              generalize upd H16 d (.dK (RW s (.ref ra) kd x ++ [(.inr "way", .int (1 + y)), (.inr "g", vp), (.inr "G", vG), (.inr "door", vD), (.inr "wish", vm), (.inr "odd", .bl o), (.inr "size", .non)])) = H17 at *
              clear S
              walk_at "go"
              refine k_some5 (M := 9) rfl S1.bag (by decide) fun v1 q1 H18 a1 i1 d1 b18 n18 => ?_
              have S2 := (S1.bg b18 n18).add a1
              clear S1
              walk_at "go"
              refine k_some5 (M := 9) rfl S2.bag (by decide) fun v2 q2 H19 a2 i2 d2 b19 n19 => ?_
              have S3 := (S2.bg b19 n19).add a2
              clear S2 b18 n18 b19 n19
              walk_at "go"
              rename_i p1 h1 p2 h2 p3 h3 pm hpm
              generalize hG : upd _ pm _ = H20
              have e20 : Ext [] H19 H20 := by rw [← hG]; walk_at "ext"
              have hl : SqL K H20 pm [v1, v2, .ref p1, .ref p2, .ref p3] := by rw [← hG]; exact lstS
              have hmenu : Ams K H20 [v1, v2, .ref p1, .ref p2, .ref p3] [q1, q2, 20, 1000, 0] := by
                refine Ams.cons ((S3.am 1 rfl rfl).x0 e20) (Ams.cons ((S3.am 0 rfl rfl).x0 e20) (Ams.cons ⟨p1, rfl, ?_⟩ (Ams.cons ⟨p2, rfl, ?_⟩ (Ams.cons ⟨p3, rfl, ?_⟩ Ams.nil))))
                · rw [← hG]; show SqT K _ p1 [.int 20, .int 1]; walk_at "sq"
                · rw [← hG]; show SqT K _ p2 [.int 1000, .int 1]; walk_at "sq"
                · rw [← hG]; show SqT K _ p3 [.int 0, .int 1]; walk_at "sq"
              have imenu : ∀ q ∈ [q1, q2, 20, 1000, 0], In 30 1000 q := fun q hq => by
                simp only [List.mem_cons, List.not_mem_nil, or_false] at hq
                rcases hq with rfl | rfl | rfl | rfl | rfl
                · exact i1.most (by decide)
                · exact i2.most (by decide)
                · exact In.nat (n := 20) (by decide)
                · exact In.nat (n := 1000) (by decide)
                · exact In.zero
              have S4 := S3.x0 e20
              have nbm : b.a ≠ pm := BagAt.ne (S3.bag.x0 (by walk_at "ext")) hpm
              clear hG h1 h2 h3 hpm e20 S3
              refine ⟨ra, rfl, ⟨_, (S4.lst (ra, rs.map V.str) (by simp)).1⟩, fun B hB => ?_⟩
              have nbB := S4.bag.ne hB
              refine r_lcL (xs := rs.map V.str) (fun i H' => ∃ acc qs', H' B = some (.lst acc) ∧ qs'.length = i ∧ Ams K H' acc qs' ∧ (∀ q ∈ qs', In 30 1000 q) ∧ BagAt K H' b ∧ Ext [b.a] H20 H') ⟨[], [], upd_same, rfl, Ams.nil, (fun _ z => nomatch z), S4.bag.new hB, Ext.refl.new hB⟩ ?_ ?_ ?_
              · rintro i H' hi ⟨acc, qs', _, _, _, _, b', e'⟩
                exact ((S4.bg b' e').lst (ra, rs.map V.str) (by simp)).1
              · rintro j z H21 hz ⟨acc, qs', f1, f2, f3, f4, b21, e21⟩
                have hj : j < rs.length := by have := (List.getElem?_eq_some_iff.mp hz).1; rwa [List.length_map] at this
                have := ok.l5
                walk_at "go"
                refine ⟨rfl, ?_⟩
                walk_at "go"
                refine ⟨b, pm, _, rfl, b21, lstX e21 hl fun z => nbm (List.mem_singleton.mp z).symm, nbm, (show 0 < 5 by decide), (show 5 ≤ 4000 by decide), fun i x H22 hx b22 n22 => ?_⟩
                obtain ⟨q, hq, hxq⟩ := hmenu.at_ hx
                have hB22 := n22 _ _ f1 fun z => nbB (List.mem_singleton.mp z).symm
                have f1l := f3.1
                refine ⟨acc, hB22, Nat.lt_of_le_of_lt (by omega : acc.length ≤ 5) (by decide), acc ++ [x], qs' ++ [q], upd_same, by rw [List.length_append, f2]; rfl, (((f3.b b21 n22).w hB22).app (Ams.cons (((hxq.b S4.bag e21).b b21 n22).w hB22) Ams.nil)), fun q' hq' => ?_, S4.bag.own hB b22, (e21.trans n22).own hB⟩
                rcases List.mem_append.mp hq' with h | h
                · exact f4 _ h
                · rw [List.mem_singleton.mp h]; exact imenu _ (List.mem_of_getElem? hq)
              · rintro H21 ⟨bs, qb, f1, f2, f3, f4, b21, e21⟩
                have S5 := (S4.bg b21 e21).addL (.inl (.inl f1) : SqL K H21 B bs) nbB
                rw [List.length_map] at f2
                clear S4 hmenu hl imenu e21 b21
                walk_at "go"
                refine r_putS S5.row (show 11 < 1000 by decide) ?_
                rw [rq_bufs]
                have nB := no_dk S5.row
                have S6 : FS K H (upd H21 d (.dK (RowFs s (.ref ra) kd x (1 + y) vp vG vD vm o .non (.ref B)))) b l d rs _ _ _ _ _ := S5.put
                have f3' : Ams K (upd H21 d (.dK (RowFs s (.ref ra) kd x (1 + y) vp vG vD vm o .non (.ref B)))) bs qb := AmsF (Ext.refl.at_ List.mem_cons_self) nB.1 f3
                generalize upd H21 d (.dK (RowFs s (.ref ra) kd x (1 + y) vp vG vD vm o .non (.ref B))) = H22 at *
                clear S5 nB f1 f3
                have S7 : FS K H H22 b l d rs (RowFs s (.ref ra) kd x (1 + y) vp vG vD vm o .non (.ref B)) [vD, vG, vp] [D, G, qp] [(vm, man)] [(B, bs), (ra, rs.map V.str), (ka, ks.map V.str)] := ⟨S6.bag, S6.row, S6.nld, Ams.cons (S6.am 2 rfl rfl) (Ams.cons (S6.am 3 rfl rfl) (Ams.cons (S6.am 4 rfl rfl) Ams.nil)), S6.mn, S6.lst, S6.lf, S6.fr, S6.ext⟩
                clear S6
                have fin : ∀ {H' : Hp} {vz : V} {z : SizeD} {ba : Addr} {xs : List V} {qs2 : List Rat}, FS K H H' b l d rs (RowFs s (.ref ra) kd x (1 + y) vp vG vD vm o vz (.ref ba)) [vD, vG, vp] [D, G, qp] [(vm, man)] [(ba, xs), (ra, rs.map V.str), (ka, ks.map V.str)] → Ams K H' xs qs2 → qs2.length = rs.length → (∀ q ∈ qs2, BufQ q) → SizeIs K H' vz z → kindOk kd z → (∀ q, z = .win q → In 30 1000 q) → Q (.ref d) H' := fun {H' vz z ba xs qs2} S hx hlen hbq hz hkz hzi => by
                  refine k d ⟨s, rs, _, kd, _, x, qp, G, D, 1 + y, man, o⟩ _ ⟨⟨hs.l6, hs.ok, ok, hlen, hbq, hkz, hw.1, hw.2, ip.sm (by decide) dp, iG.sm (by decide) dG, iD.sm (by decide) dD, hG, hD, by show 1 ≤ 1 + y; omega, by show 1 + y ≤ 20; omega, fun p hp => ⟨(hman p hp).1, (hman p hp).2.1, (hman p hp).2.2.1⟩⟩, ip, iG, iD, hzi, fun p hp => (hman p hp).2.2.2⟩ rfl rfl hkd ho ⟨ra, _, _, _, vp, vG, vD, vm, S.row, (S.lst (ra, rs.map V.str) (by simp)).1, (S.lst (_, _) (by simp)).1, nra, (S.lst (ba, xs) (by simp)).2, hx, hz, S.am 2 rfl rfl, S.am 1 rfl rfl, S.am 0 rfl rfl, S.mn (vm, man) (by simp)⟩ hd S.bag fun a o' ha hn => S.ext a o' ha fun z => ?_
                  simp only [List.mem_cons, List.not_mem_nil, or_false] at z hn
                  rcases z with z | z | z
                  · exact hn (.inl z)
                  · exact hn (.inr z)
                  · rw [z, hd] at ha; cases ha
                walk_at "go"
                refine r_mid (fun σ' H' => ∃ u8 vz z ba xs qs2, σ' = [some (V.ref b.a), some (V.str s), some (V.ref ra), some (V.ref l), some (V.ref ka), some (V.bl wild), some (V.ref d), some vll, u8, some vp, some (V.ref pm)] ∧ FS K H H' b l d rs (RowFs s (.ref ra) kd x (1 + y) vp vG vD vm o vz (.ref ba)) [vD, vG, vp] [D, G, qp] [(vm, man)] [(ba, xs), (ra, rs.map V.str), (ka, ks.map V.str)] ∧ Ams K H' xs qs2 ∧ qs2.length = rs.length ∧ (∀ q ∈ qs2, BufQ q) ∧ SizeIs K H' vz z ∧ ((kd = "window" ∧ ∃ q, z = .win q ∧ In 30 1000 q) ∨ (kd ≠ "window" ∧ z = .no))) ?_ ?_
                · walk_at "go"
                  refine r_getS S7.row rv_kind ?_
                  walk_at "go"
                  refine r_dec (fun hk1 => ?_) (fun hk1 => ?_)
                  · have hk2 : kd = "window" := by cases hk1; rfl
                    walk_at "go"
                    refine k_some5 (M := 9) rfl S7.bag (by decide) fun v3 q3 H23 a3 i3 d3 b23 n23 => ?_
                    have S8 := (S7.bg b23 n23)
                    have f4' := f3'.b S7.bag n23
                    clear S7 f3'
                    walk_at "go"
                    rename_i p4 h4 p5 h5 p6 h6 pz hpz
                    generalize hG : upd _ pz _ = H24
                    have e24 : Ext [] H23 H24 := by rw [← hG]; walk_at "ext"
                    have hl2 : SqL K H24 pz [v3, .ref p4, .ref p5, .ref p6] := by rw [← hG]; exact lstS
                    have hmz : Ams K H24 [v3, .ref p4, .ref p5, .ref p6] [q3, 12, 1000, 0] := by
                      refine Ams.cons (a3.x0 e24) (Ams.cons ⟨p4, rfl, ?_⟩ (Ams.cons ⟨p5, rfl, ?_⟩ (Ams.cons ⟨p6, rfl, ?_⟩ Ams.nil)))
                      · rw [← hG]; show SqT K _ p4 [.int 12, .int 1]; walk_at "sq"
                      · rw [← hG]; show SqT K _ p5 [.int 1000, .int 1]; walk_at "sq"
                      · rw [← hG]; show SqT K _ p6 [.int 0, .int 1]; walk_at "sq"
                    have imz : ∀ q ∈ [q3, 12, 1000, 0], In 30 1000 q := fun q hq => by
                      simp only [List.mem_cons, List.not_mem_nil, or_false] at hq
                      rcases hq with rfl | rfl | rfl | rfl
                      · exact i3.most (by decide)
                      · exact In.nat (n := 12) (by decide)
                      · exact In.nat (n := 1000) (by decide)
                      · exact In.zero
                    have S9 := S8.x0 e24
                    have f5 := f4'.x0 e24
                    have nbz : b.a ≠ pz := BagAt.ne (S8.bag.x0 (by walk_at "ext")) hpz
                    clear hG h4 h5 h6 hpz S8 f4' e24
                    refine ⟨b, pz, _, rfl, S9.bag, hl2, nbz, (show 0 < 4 by decide), (show 4 ≤ 4000 by decide), fun i vz H25 hx b25 n25 => ?_⟩
                    obtain ⟨qz, hqz, haz⟩ := hmz.at_ hx
                    have iz := imz _ (List.mem_of_getElem? hqz)
                    have S10 := (S9.bg b25 n25).add (haz.b S9.bag n25)
                    have f6 := f5.b S9.bag n25
                    clear S9 f5 hmz hl2 imz
                    walk_at "go"
                    refine r_putS S10.row (show 12 < 1000 by decide) ?_
                    rw [rp_size]
                    have nB2 := no_dk S10.row
                    have S11 : FS K H (upd H25 d (.dK (RowFs s (.ref ra) kd x (1 + y) vp vG vD vm o vz (.ref B)))) b l d rs _ _ _ _ _ := S10.put
                    have f7 : Ams K (upd H25 d (.dK (RowFs s (.ref ra) kd x (1 + y) vp vG vD vm o vz (.ref B)))) bs qb := AmsF (Ext.refl.at_ List.mem_cons_self) nB2.1 f6
                    generalize upd H25 d (.dK (RowFs s (.ref ra) kd x (1 + y) vp vG vD vm o vz (.ref B))) = H26 at *
                    clear S10 nB2 f6
                    walk_at "go"
                    refine r_getS S11.row rv_bufs ?_
                    refine ⟨B, rfl, ⟨_, (S11.lst (B, bs) (by simp)).1⟩, fun B2 hB2 => ?_⟩
                    have nb2 := S11.bag.ne hB2
                    refine r_lcL (xs := bs) (fun i H' => ∃ acc qs', H' B2 = some (.lst acc) ∧ qs'.length = i ∧ Ams K H' acc qs' ∧ (∀ q ∈ qs', In 900 2000 q) ∧ BagAt K H' b ∧ Ext [b.a] H26 H') ⟨[], [], upd_same, rfl, Ams.nil, (fun _ z => nomatch z), S11.bag.new hB2, Ext.refl.new hB2⟩ ?_ ?_ ?_
                    · rintro i H' hi ⟨acc, qs', _, _, _, _, b', e'⟩
                      exact ((S11.bg b' e').lst (B, bs) (by simp)).1
                    · rintro j z H27 hz ⟨acc, qs', g1, g2, g3, g4, b27, e27⟩
                      obtain ⟨qo, hqo, hao⟩ := f7.at_ hz
                      have io := f4 _ (List.mem_of_getElem? hqo)
                      have hj : j < bs.length := (List.getElem?_eq_some_iff.mp hz).1
                      have hbl := f7.1
                      have := ok.l5
                      have S12 := S11.bg b27 e27
                      walk_at "go"
                      refine ⟨rfl, ?_⟩
                      walk_at "go"
                      refine r_getS S12.row rv_size ?_
                      walk_at "go"
                      refine k_part b27 (hao.b S11.bag e27) io.nn (in30z io z1000) fun vq qr H28 aq pq b28 n28 => ?_
                      obtain ⟨r0, r1⟩ := pq.le io.nn
                      have ir : In (30 * 30) 1000 qr := pq.in_ io
                      walk_at "go"
                      refine k_two ((S12.am 0 rfl rfl).b b27 n28) aq (in30z iz z1000) (inz ir (by decide) (by decide) (by decide)) iz.nn r0 trivial fun vs_ H29 e29 as_ => ?_
                      have i2 : In 900 2000 (qz + qr) := (iz.up (by decide : 30 ∣ 900)).add ir
                      have g29 := e29 _ _ (n28 _ _ g1 fun z => nb2 (List.mem_singleton.mp z).symm) fun z => nomatch z
                      have gl := g3.1
                      refine ⟨acc, g29, Nat.lt_of_le_of_lt (by omega : acc.length ≤ 5) (by decide), acc ++ [vs_], qs' ++ [qz + qr], upd_same, by rw [List.length_append, g2]; rfl, ((((g3.b b27 n28).x0 e29).w g29).app (Ams.cons (as_.w g29) Ams.nil)), fun q' hq' => ?_, S11.bag.own hB2 (b28.x0 e29), ((e27.trans n28).trans e29.of0).own hB2⟩
                      rcases List.mem_append.mp hq' with h | h
                      · exact g4 _ h
                      · rw [List.mem_singleton.mp h]; exact i2
                    · rintro H27 ⟨bs2, qb2, g1, g2, g3, g4, b27, e27⟩
                      have S12 := (S11.bg b27 e27).addL (.inl (.inl g1) : SqL K H27 B2 bs2) nb2
                      have hbl := f7.1
                      clear S11
                      walk_at "go"
                      refine r_putS S12.row (show 12 < 1000 by decide) ?_
                      rw [rp_bufs]
                      have nB2 := no_dk S12.row
                      have S13 : FS K H (upd H27 d (.dK (RowFs s (.ref ra) kd x (1 + y) vp vG vD vm o vz (.ref B2)))) b l d rs _ _ _ _ _ := S12.put
                      have g5 : Ams K (upd H27 d (.dK (RowFs s (.ref ra) kd x (1 + y) vp vG vD vm o vz (.ref B2)))) bs2 qb2 := AmsF (Ext.refl.at_ List.mem_cons_self) nB2.1 g3
                      walk_at "go"
                      refine ⟨_, vz, .win qz, B2, bs2, qb2, rfl, ⟨S13.bag, S13.row, S13.nld, Ams.cons (S13.am 1 rfl rfl) (Ams.cons (S13.am 2 rfl rfl) (Ams.cons (S13.am 3 rfl rfl) Ams.nil)), S13.mn, fun p hp => ?_, S13.lf, S13.fr, S13.ext⟩, g5, by omega, fun q hq => ?_, ⟨S13.am 0 rfl rfl, ?_⟩, .inl ⟨hk2, qz, rfl, iz⟩⟩
                      · simp only [List.mem_cons, List.not_mem_nil, or_false] at hp
                        rcases hp with rfl | rfl | rfl
                        · exact S13.lst _ (by simp)
                        · exact S13.lst _ (by simp)
                        · exact S13.lst _ (by simp)
                      · have i := g4 q hq
                        exact ⟨i.nn, Rat.le_trans i.le (by norm_cast), inz i (by decide) (by decide) (by decide)⟩
                      · exact ⟨iz.nn, Rat.le_trans iz.le (by norm_cast), in30z iz z1000⟩
                  · walk_at "go"
                    refine ⟨_, .non, .no, B, bs, qb, rfl, S7, f3', by omega, fun q hq => ?_, rfl, .inr ⟨fun z => hk1 (by rw [z]), rfl⟩⟩
                    have i := f4 q hq
                    exact ⟨i.nn, Rat.le_trans i.le (by norm_cast), in30z i z1000⟩
                · clear S7 f3'
                  rintro σ H23 ⟨u8, vz, z, ba, xs, qs2, rfl, S, hx, hlen, hbq, hz, hcase⟩
                  walk_at "go"
                  refine r_getS S.row rv_kind ?_
                  walk_at "go"
                  refine r_dec (fun hk1 => ?_) (fun hk1 => ?_)
                  · have hk2 : kd = "probe" := by cases hk1; rfl
                    walk_at "go"
                    refine k_draw S.bag (by omega) (by decide) fun y3 H24 y30 y31 b24 n24 => ?_
                    have S1 := S.bg b24 n24
                    have hx1 := hx.b S.bag n24
                    walk_at "go"
                    refine r_putS S1.row (show 12 < 1000 by decide) ?_
                    rw [rp_size]
                    have nB2 := no_dk S1.row
                    walk_at "go"
                    refine fin (z := .tries (1 + y3)) S1.put (AmsF (Ext.refl.at_ List.mem_cons_self) nB2.1 hx1) hlen hbq ⟨rfl, by omega, by omega⟩ (by rw [hk2]; first | done | rfl) (fun q z => nomatch z)
                  · walk_at "go"
                    refine fin S hx hlen hbq hz ?_ fun q hq => ?_
                    · rcases hcase with ⟨e, q, rfl, _⟩ | ⟨e, rfl⟩
                      · exact e
                      · rcases hk kd hkd with h | h | h | h
                        · exact .inl h
                        · exact .inr h
                        · exact absurd h e
                        · exact absurd (by rw [h]) hk1
                    · rcases hcase with ⟨e, q', rfl, hi⟩ | ⟨e, rfl⟩
                      · cases hq; exact hi
                      · cases hq
end
end Yk

set_option maxHeartbeats 16000000
namespace Yk
open PySem PySem.Spec PyProof.Rows L2

local macro_rules | `(tactic| walk_at "st") => `(tactic| first
  | with_reducible refine' r_tAt ?_
  | ((with_reducible refine' r_fld ?h1 ?h2 ?h3); (case h1 => first | assumption | exact upd_same); (case h2 => first | walk_at "lk" | rfl))
  | with_reducible refine' r_sAt ?_
  | ((with_reducible refine' r_putU ?h1 ?h2); (case h1 => (repeat refine putF_lt ?_); decide))
  | ((with_reducible refine' r_put ?h1 ?h2 ?h3); (case h1 => first | assumption | exact upd_same); (case h2 => (repeat refine putF_lt ?_); decide))
  | with_reducible refine' r_tMt ?_
  | ((with_reducible refine' r_met ?h1 ?h2 ?h3); (case h1 => first | assumption | exact upd_same); (case h2 => first | walk_at "lk" | rfl))
  | with_reducible refine' r_tCr ?_
  | with_reducible refine' r_tCrK ?_
  | with_reducible refine' r_chain ?_)
local macro_rules | `(tactic| walk_at "st") => `(tactic| first
  | with_reducible refine' r_dget ?_
  | with_reducible refine' r_dc ?_
  | with_reducible refine' r_iVals ?_
  | with_reducible refine' r_dnotin ?_
  | with_reducible refine' r_din ?_
  | with_reducible refine' r_iItems ?_
  | with_reducible refine' r_iKeysT ?_
  | with_reducible refine' r_tget1 ?_
  | with_reducible refine' r_tget2 ?_
  | with_reducible refine' r_dput ?_
  | with_reducible refine' r_tPr ?_
  | ((with_reducible refine' r_prp2 ?h1 ?h2); (case h1 => first | assumption | exact upd_same))
  | with_reducible refine' r_par3 ?_
  | ((with_reducible refine' r_dnT ?_); (intro np hnp))
  | ((with_reducible refine' r_dnK ?_); (intro np hnp)))
/-! Flows that the law draws; senders of windows. -/
local macro_rules | `(tactic| walk_at "lk") => `(tactic| first | with_reducible exact lk_Flow_name | with_reducible exact lk_Flow_route | with_reducible exact lk_Flow_buffers | with_reducible exact lk_Flow_kind | with_reducible exact lk_Flow_size | with_reducible exact lk_Flow_weight | with_reducible exact lk_Flow_least | with_reducible exact lk_Flow_cap | with_reducible exact lk_Flow_door | with_reducible exact lk_Flow_way | with_reducible exact lk_Flow_manner | with_reducible exact lk_Flow_strange | with_reducible exact lk_Flow_last)
section
variable {K : PySem.W.Frag} {H H1 : Hp} {b : Bag} {d : Addr} {F : FlowD}
theorem FRowAt.x0 (h : FRowAt K H b d F) (e : Ext [] H H1) : FRowAt K H1 b d F := by
  obtain ⟨ra, ba, xs, vz, vg, vG, vD, vm, h0, h1, h2, n1, n2, h3, h4, h5, h6, h7, h8⟩ := h
  exact ⟨ra, ba, xs, vz, vg, vG, vD, vm, e _ _ h0 (fun z => nomatch z), lst0 e h1, lst0 e h2, n1, n2, h3.x0 e, h4.x0 e, h5.x0 e, h6.x0 e, h7.x0 e, h8.x0 e⟩
theorem FRowAt.bg (h : FRowAt K H b d F) (hb : BagAt K H b) (e : Ext [b.a] H H1) : FRowAt K H1 b d F := by
  obtain ⟨ra, ba, xs, vz, vg, vG, vD, vm, h0, h1, h2, n1, n2, h3, h4, h5, h6, h7, h8⟩ := h
  have nd := bag_ne_dk hb h0
  exact ⟨ra, ba, xs, vz, vg, vG, vD, vm, e _ _ h0 (fun z => nd (List.mem_singleton.mp z)), lstX e h1 (fun z => n1 (List.mem_singleton.mp z).symm), lstX e h2 (fun z => n2 (List.mem_singleton.mp z).symm), n1, n2, h3.b hb e, h4.b hb e, h5.b hb e, h6.b hb e, h7.b hb e, ManIs.x e h8 fun a ha => by rw [List.mem_singleton.mp ha]; exact hb.lst⟩
theorem FRowAt.f {S : List Addr} (h : FRowAt K H b d F) (e : Ext S H H1) (ns : NoTup H S) (nl : NoLst H S) (hd : d ∉ S) : FRowAt K H1 b d F := by
  obtain ⟨ra, ba, xs, vz, vg, vG, vD, vm, h0, h1, h2, n1, n2, h3, h4, h5, h6, h7, h8⟩ := h
  exact ⟨ra, ba, xs, vz, vg, vG, vD, vm, e _ _ h0 hd, lstF e h1 nl, lstF e h2 nl, n1, n2, AmsF e ns h3, h4.f e ns, h5.f e ns, h6.f e ns, h7.f e ns, h8.f e ns⟩
theorem FRowAt.row (h : FRowAt K H b d F) : ∃ L vz vg vG vD vm, H d = some (.dK L) ∧ L.length < 1000 ∧ valV L (.inr "name") = some (.str F.n) ∧ valV L (.inr "kind") = some (.str F.d) ∧ valV L (.inr "w") = some (.int F.w) ∧ valV L (.inr "way") = some (.int F.y) ∧ valV L (.inr "odd") = some (.bl F.b) ∧
    valV L (.inr "g") = some vg ∧ Am K H vg F.l ∧ valV L (.inr "G") = some vG ∧ Am K H vG F.c ∧ valV L (.inr "door") = some vD ∧ Am K H vD F.g ∧ valV L (.inr "wish") = some vm ∧ ManIs K H vm F.man ∧ valV L (.inr "size") = some vz ∧ SizeIs K H vz F.z := by
  obtain ⟨ra, ba, xs, vz, vg, vG, vD, vm, h0, h1, h2, n1, n2, h3, h4, h5, h6, h7, h8⟩ := h
  exact ⟨_, vz, vg, vG, vD, vm, h0, show 12 < 1000 by decide, rv_name, rv_kind, rv_w, rv_way, rv_odd, rv_g, h5, rv_G, h6, rv_door, h7, rv_wish, h8, rv_size, h4⟩
theorem FRowAt.putW {L : List (Key × V)} {v : V} {man : Option (Rat × Rat)} (h : FRowAt K H b d F) (hL : H d = some (.dK L)) (hm : ManIs K H v man) : FRowAt K (upd H d (.dK (putK L (.inr "wish") v))) b d { F with man := man } := by
  obtain ⟨ra, ba, xs, vz, vg, vG, vD, vm, h0, h1, h2, n1, n2, h3, h4, h5, h6, h7, h8⟩ := h
  rw [h0] at hL
  cases hL
  rw [rp_wish]
  have n := no_dk h0
  have e : Ext [d] H (upd H d (.dK (RowFs F.n (.ref ra) F.d F.w F.y vg vG vD v F.b vz (.ref ba)))) := Ext.refl.at_ List.mem_cons_self
  exact ⟨ra, ba, xs, vz, vg, vG, vD, v, upd_same, lstF e h1 n.2, lstF e h2 n.2, n1, n2, AmsF e n.1 h3, h4.f e n.1, h5.f e n.1, h6.f e n.1, h7.f e n.1, hm.f e n.1⟩
theorem FRowAt.putG {L : List (Key × V)} {v : V} {q : Rat} (h : FRowAt K H b d F) (hL : H d = some (.dK L)) (hm : Am K H v q) : FRowAt K (upd H d (.dK (putK L (.inr "G") v))) b d { F with c := q } := by
  obtain ⟨ra, ba, xs, vz, vg, vG, vD, vm, h0, h1, h2, n1, n2, h3, h4, h5, h6, h7, h8⟩ := h
  rw [h0] at hL
  cases hL
  rw [rp_G]
  have n := no_dk h0
  have e : Ext [d] H (upd H d (.dK (RowFs F.n (.ref ra) F.d F.w F.y vg v vD vm F.b vz (.ref ba)))) := Ext.refl.at_ List.mem_cons_self
  exact ⟨ra, ba, xs, vz, vg, v, vD, vm, upd_same, lstF e h1 n.2, lstF e h2 n.2, n1, n2, AmsF e n.1 h3, h4.f e n.1, h5.f e n.1, hm.f e n.1, h7.f e n.1, h8.f e n.1⟩
theorem FRowAt.putD {L : List (Key × V)} {v : V} {q : Rat} (h : FRowAt K H b d F) (hL : H d = some (.dK L)) (hm : Am K H v q) : FRowAt K (upd H d (.dK (putK L (.inr "door") v))) b d { F with g := q } := by
  obtain ⟨ra, ba, xs, vz, vg, vG, vD, vm, h0, h1, h2, n1, n2, h3, h4, h5, h6, h7, h8⟩ := h
  rw [h0] at hL
  cases hL
  rw [rp_door]
  have n := no_dk h0
  have e : Ext [d] H (upd H d (.dK (RowFs F.n (.ref ra) F.d F.w F.y vg vG v vm F.b vz (.ref ba)))) := Ext.refl.at_ List.mem_cons_self
  exact ⟨ra, ba, xs, vz, vg, vG, v, vm, upd_same, lstF e h1 n.2, lstF e h2 n.2, n1, n2, AmsF e n.1 h3, h4.f e n.1, h5.f e n.1, h6.f e n.1, hm.f e n.1, h8.f e n.1⟩
theorem FRowAt.dk (h : FRowAt K H b d F) : ∃ L, H d = some (.dK L) ∧ L.length < 1000 := let ⟨L, _, _, _, _, _, h, l, _⟩ := h.row; ⟨L, h, l⟩
end
section
variable {P : Program} {w : World} {K : PySem.W.Frag} {mg : Str → Option Value} {base : Heap} {f : Addr} {fd : FuncData}
def spMade (cF : Addr) (K : PySem.W.Frag) : Sp := fun vs H Q _ => ∃ (b : Bag) (d : Addr) (F : FlowD), vs = [.ref d] ∧ FRowAt K H b d F ∧ FRowOk F ∧ ∀ v H', Ext [] H H' → FlowAt cF K H' v F → (∃ a, v = .ref a ∧ H a = none) → Q v H'
abbrev s_law_made_flow : Stmt := top 70
theorem c_law_made_flow : FnScope ["_law_row"] ["_law_row"] (defScope s_law_made_flow) := ⟨rfl, rfl, rfl, by decide +kernel, rfl, by decide +kernel, by decide +kernel⟩
theorem f_law_made_flow (F : FunD K "_law_made_flow" "_law_made_flow" (defArgs s_law_made_flow) (defBody s_law_made_flow) (defScope s_law_made_flow) [] [] f fd) (hm : mg "_law_made_flow" = some (.ref f)) {cF : Addr} (KFlow_3_kind_size_weight_least_cap_door_way_manner_strange : CrK P w K mg base 6 "Flow" cF 3 ["kind", "size", "weight", "least", "cap", "door", "way", "manner", "strange"] (fun vs zs => vs ++ zs) (spFlowInit cF K)) : Fn P w K mg base 8 "_law_made_flow" (spMade cF K) := by
  refine fn_def F hm c_law_made_flow (fun vs H Q E h => ?_) (fun _ _ _ _ _ _ us hl => match us, hl with | [_], _ => rfl) (fun cdv A outer s H vs Q E hr h => ?_)
  · obtain ⟨b, d, F, rfl, _⟩ := h
    rfl
  · obtain ⟨b, d, F, rfl, ⟨ra, ba, xs, vz, vl, vc, vg, vm, h0, hr1, hb, _, _, hq, hz, hl, hc, hg, hm1⟩, ok, k⟩ := h
    have nd := c_law_made_flow.nd
    refine ⟨_, (pss_one (ps_ret (pe_crK KFlow_3_kind_size_weight_least_cap_door_way_manner_strange (hr.mono (by decide)) (pa_cons (pe_dget (hu_of hr) (pv 0) pe_str (fun _ _ => rfl)) (pa_cons (pe_dget (hu_of hr) (pv 0) pe_str (fun _ _ => rfl)) (pa_cons (pe_dget (hu_of hr) (pv 0) pe_str (fun _ _ => rfl)) pa_nil))) (pk_cons (pe_dget (hu_of hr) (pv 0) pe_str (fun _ _ => rfl)) (pk_cons (pe_dget (hu_of hr) (pv 0) pe_str (fun _ _ => rfl)) (pk_cons (pe_dget (hu_of hr) (pv 0) pe_str (fun _ _ => rfl)) (pk_cons (pe_dget (hu_of hr) (pv 0) pe_str (fun _ _ => rfl)) (pk_cons (pe_dget (hu_of hr) (pv 0) pe_str (fun _ _ => rfl)) (pk_cons (pe_dget (hu_of hr) (pv 0) pe_str (fun _ _ => rfl)) (pk_cons (pe_dget (hu_of hr) (pv 0) pe_str (fun _ _ => rfl)) (pk_cons (pe_dget (hu_of hr) (pv 0) pe_str (fun _ _ => rfl)) (pk_cons (pe_dget (hu_of hr) (pv 0) pe_str (fun _ _ => rfl)) pk_nil)))))))))))), ?_⟩
    show (_ : TS) _ [some _] _
    try dsimp only [cxOf, Cx.nox]
    walk_at "go"
    refine r_getS h0 rv_name ?_
    walk_at "go"
    refine r_getS h0 rv_route ?_
    walk_at "go"
    refine r_getS h0 rv_bufs ?_
    walk_at "go"
    refine r_getS h0 rv_kind ?_
    walk_at "go"
    refine r_getS h0 rv_size ?_
    walk_at "go"
    refine r_getS h0 rv_w ?_
    walk_at "go"
    refine r_getS h0 rv_g ?_
    walk_at "go"
    refine r_getS h0 rv_G ?_
    walk_at "go"
    refine r_getS h0 rv_door ?_
    walk_at "go"
    refine r_getS h0 rv_way ?_
    walk_at "go"
    refine r_getS h0 rv_wish ?_
    walk_at "go"
    refine r_getS h0 rv_odd ?_
    walk_at "go"
    refine ⟨rfl, rfl, fun x dx nx ndx nex => ?_⟩
    have hf : upd H dx (.own x) x = none := by rw [upd_ne nex.symm]; exact nx
    have e : Ext [] H (upd (upd H dx (.own x)) x (.ins cF dx [])) := (Ext.refl.new ndx).new hf
    refine ⟨x, dx, ra, ba, xs, vz, vl, vc, vg, vm, F, rfl, upd_same, ok.ok, .inl (lst0 e hr1), .inl (lst0 e hb), hq.x0 e, hz.x0 e, hl.x0 e, hc.x0 e, hg.x0 e, hm1.x0 e, fun H' t1 t2 e2 hx s1 s2 => ⟨rfl, ?_⟩⟩
    have e3 : Ext [] H H' := fun b o hb _ => by
      have hbx : b ∉ [x] := fun z => by rw [List.mem_singleton.mp z, nx] at hb; cases hb
      exact e2 _ _ (e _ _ hb fun z => nomatch z) hbx
    exact k _ _ e3 ⟨x, dx, t1, t2, xs, vz, vl, vc, vg, vm, rfl, hx, s1, s2, hq.x0 e3, hz.x0 e3, hl.x0 e3, hc.x0 e3, hg.x0 e3, hm1.x0 e3⟩ ⟨x, rfl, nx⟩
def spWindow (K : PySem.W.Frag) : Sp := fun vs H Q _ => ∃ (b : Bag), vs = [.ref b.a] ∧ BagAt K H b ∧ ∀ d F p q H', FRowOk F → F.d = "window" → F.z = .win q → F.man = some p → FRowAt K H' b d F → BagAt K H' b → Ext [b.a] H H' → Q (.ref d) H'
end
end Yk

set_option maxHeartbeats 16000000
namespace Yk
open PySem PySem.Spec PyProof.Rows L2

local macro_rules | `(tactic| walk_at "st") => `(tactic| first
  | with_reducible refine' r_tAt ?_
  | ((with_reducible refine' r_fld ?h1 ?h2 ?h3); (case h1 => first | assumption | exact upd_same); (case h2 => first | walk_at "lk" | rfl))
  | with_reducible refine' r_sAt ?_
  | ((with_reducible refine' r_putU ?h1 ?h2); (case h1 => (repeat refine putF_lt ?_); decide))
  | ((with_reducible refine' r_put ?h1 ?h2 ?h3); (case h1 => first | assumption | exact upd_same); (case h2 => (repeat refine putF_lt ?_); decide))
  | with_reducible refine' r_tMt ?_
  | ((with_reducible refine' r_met ?h1 ?h2 ?h3); (case h1 => first | assumption | exact upd_same); (case h2 => first | walk_at "lk" | rfl))
  | with_reducible refine' r_tCr ?_
  | with_reducible refine' r_tCrK ?_
  | with_reducible refine' r_chain ?_)
local macro_rules | `(tactic| walk_at "st") => `(tactic| first
  | with_reducible refine' r_dget ?_
  | with_reducible refine' r_dc ?_
  | with_reducible refine' r_iVals ?_
  | with_reducible refine' r_dnotin ?_
  | with_reducible refine' r_din ?_
  | with_reducible refine' r_iItems ?_
  | with_reducible refine' r_iKeysT ?_
  | with_reducible refine' r_tget1 ?_
  | with_reducible refine' r_tget2 ?_
  | with_reducible refine' r_dput ?_
  | with_reducible refine' r_tPr ?_
  | ((with_reducible refine' r_prp2 ?h1 ?h2); (case h1 => first | assumption | exact upd_same))
  | with_reducible refine' r_par3 ?_
  | ((with_reducible refine' r_dnT ?_); (intro np hnp))
  | ((with_reducible refine' r_dnK ?_); (intro np hnp)))
/-! A flow is equal to itself. -/
local macro_rules | `(tactic| walk_at "lk") => `(tactic| first | with_reducible exact lk_Flow_name | with_reducible exact lk_Flow_route | with_reducible exact lk_Flow_buffers | with_reducible exact lk_Flow_kind | with_reducible exact lk_Flow_size | with_reducible exact lk_Flow_weight | with_reducible exact lk_Flow_least | with_reducible exact lk_Flow_cap | with_reducible exact lk_Flow_door | with_reducible exact lk_Flow_way | with_reducible exact lk_Flow_manner | with_reducible exact lk_Flow_strange | with_reducible exact lk_Flow_last)
theorem ext_l2 {H H' : Hp} (h : L2.Ext H H') : Ext [] H H' := fun a o ha _ => h a o ha
theorem l2_ext {H H' : Hp} (h : Ext [] H H') : L2.Ext H H' := fun a o ha => h a o ha fun z => nomatch z
section
variable {K : PySem.W.Frag} {H : Hp} {Q : VK}
theorem eq_self {v : V} {d : PyData} (h : Dp K H v d) (hc : d.canLay0 = true) (hd : d.depth ≤ 64) (k : Q (.bl true) H) : rEqD K v v H Q := by
  refine ⟨d, d, h, h, ?_, ?_, ?_⟩
  · unfold SeqAt.shaped; rw [hc, decide_eq_true hd]; rfl
  · unfold SeqAt.shaped; rw [hc, decide_eq_true hd]; rfl
  · rw [SeqAt.eqv_refl d hc]; exact k
theorem dp_man2 {v : V} {man : Option (Rat × Rat)} (h : ManIs K H v man) : ∃ d, Dp K H v d ∧ d.canLay0 = true ∧ d.depth ≤ 64 := by
  cases man with
  | none => obtain ⟨a, rfl, h⟩ := h; exact ⟨.tuple [], .tup h .nil, rfl, by decide⟩
  | some q => obtain ⟨a, v1, v2, rfl, h, a1, a2⟩ := h; exact ⟨_, .tup h (.cons (dp_am a1) (.cons (dp_am a2) .nil)), rfl, by simp [PyData.depth, PyData.depthAll]⟩
theorem dp_ams : ∀ {vs : List V} {qs : List Rat}, Ams K H vs qs → ∃ ds, DpAll K H vs ds ∧ PyData.canLayAll0 ds = true ∧ PyData.depthAll ds ≤ 2
  | [], qs, h => ⟨[], .nil, rfl, Nat.zero_le _⟩
  | v :: vs, [], h => absurd h.1 (by simp)
  | v :: vs, q :: qs, h => by
    obtain ⟨ds, h1, h2, h3⟩ := dp_ams (vs := vs) (qs := qs) ⟨by simpa using h.1, fun i v q a b => h.2 (i + 1) v q (by simpa using a) (by simpa using b)⟩
    refine ⟨_, .cons (dp_am (h.2 0 v q rfl rfl)) h1, ?_, ?_⟩
    · rw [PyData.canLayAll0, h2]; rfl
    · rw [PyData.depthAll]
      refine Nat.max_le.mpr ⟨?_, h3⟩
      simp [PyData.depth, PyData.depthAll]
theorem dp_strs : ∀ {rs : List Str}, (∀ s ∈ rs, PyData.strOk s = true) → ∃ ds, DpAll K H (rs.map V.str) ds ∧ PyData.canLayAll0 ds = true ∧ PyData.depthAll ds ≤ 2
  | [], _ => ⟨[], .nil, rfl, Nat.zero_le _⟩
  | s :: rs, h => by
    obtain ⟨ds, h1, h2, h3⟩ := dp_strs (rs := rs) fun s hs => h s (List.mem_cons_of_mem _ hs)
    refine ⟨_, .cons (.str s) h1, ?_, ?_⟩
    · rw [PyData.canLayAll0, h2, PyData.canLay0, h s List.mem_cons_self]; rfl
    · rw [PyData.depthAll]
      exact Nat.max_le.mpr ⟨Nat.zero_le _, h3⟩
theorem dp_tup {a : Addr} {xs : List V} {ds : List PyData} (h : SqT K H a xs) (g : DpAll K H xs ds) (hd : PyData.depthAll ds ≤ 2) : Dp K H (.ref a) (.tuple ds) ∧ (PyData.tuple ds).depth ≤ 64 := ⟨.tup h g, by rw [PyData.depth]; omega⟩
theorem nameB_ok {s : Str} (h : nameB s = true) : PyData.strOk s = true := by
  unfold nameB at h
  simp only [Bool.and_eq_true] at h
  have h1 := h.1.1.2
  unfold Txt.isascii at h1
  unfold PyData.strOk
  rw [Array.all_eq_true_iff_forall_mem] at h1 ⊢
  intro c hc
  have := of_decide_eq_true (h1 c hc)
  exact decide_eq_true (by omega)
theorem dp_size {v : V} {z : SizeD} (h : SizeIs K H v z) : ∃ d, Dp K H v d ∧ d.canLay0 = true ∧ d.depth ≤ 64 := by
  cases z with
  | no => rw [show v = .non from h]; exact ⟨.none, .non, rfl, by decide⟩
  | win q => exact ⟨_, dp_am h.1, rfl, by simp [PyData.depth, PyData.depthAll]⟩
  | tries n => rw [h.1]; exact ⟨.int n, .int n, rfl, by simp [PyData.depth]⟩
end
def FlowR (cF : Addr) (K : PySem.W.Frag) : Addr → Addr → Hp → Prop := fun a b H => a = b ∧ ∃ F, FlowAt cF K H (.ref a) F ∧ FlowOk F
theorem FlowR.mon {cF : Addr} {K : PySem.W.Frag} : ∀ a b H H', L2.Ext H H' → FlowR cF K a b H → FlowR cF K a b H' := fun a b H H' e ⟨h, F, hf, ok⟩ => ⟨h, F, hf.x0 (ext_l2 e), ok⟩
section
variable {P : Program} {w : World} {K : PySem.W.Frag} {mg : Str → Option Value} {base : Heap} {f : Addr} {fd : FuncData}
abbrev s_Flow___eq__ : Stmt := inClass (top 42) 7
theorem c_Flow___eq__ : FnScope ["self", "other"] ["self", "other"] (defScope s_Flow___eq__) := ⟨rfl, rfl, rfl, by decide +kernel, rfl, by decide +kernel, by decide +kernel⟩
theorem f_Flow___eq__ (F : FunD K "__eq__" "Flow.__eq__" (defArgs s_Flow___eq__) (defBody s_Flow___eq__) (defScope s_Flow___eq__) [] [] f fd) {cF : Addr} (T : Bt mg) (Y : Ty1 K cF) (hself : PySem.W.kitOne K (.ref cF) (.ref cF) = some true) (TFlow : Ct K mg "Flow" cF ["name", "route", "buffers", "kind", "size", "weight", "least", "cap", "door", "way", "manner", "strange", "last"]) : FnOk P w K mg base CX0 1 f fd ["self", "other"] (spEq (FlowR cF K)) := by
  refine ok_meth F c_Flow___eq__ (fun vs H Q E h => ?_) (fun cdv A outer s H vs Q E hr h => ?_)
  · obtain ⟨a, b, rfl, _⟩ := h
    rfl
  · obtain ⟨a, b, rfl, ⟨rfl, F0, ⟨fa, dx, t1, t2, xs, vz, vl, vc, vg, vm, e0, ha, hro, hb, hxs, hz, hl, hc, hg, hm⟩, ok⟩, k⟩ := h
    have nd := c_Flow___eq__.nd
    refine ⟨_, (pss_one (ps_ret (pe_and (pe_callB call_isi (by rfl) T.isinstance (by decide +kernel) (pa_cons (pv 1) (pa_cons (pe_glob (v := .ref cF) (by rfl) TFlow.hm rfl) pa_nil))) (pe_and (pe_cmpR op_eq (pe_at TFlow (by decide +kernel) (pv 0)) (pe_at TFlow (by decide +kernel) (pv 1)) (nomark _)) (pe_and (pe_cmpR (op_eqD hr.units) (pe_at TFlow (by decide +kernel) (pv 0)) (pe_at TFlow (by decide +kernel) (pv 1)) (nomark _)) (pe_and (pe_cmpR (op_eqD hr.units) (pe_at TFlow (by decide +kernel) (pv 0)) (pe_at TFlow (by decide +kernel) (pv 1)) (nomark _)) (pe_and (pe_cmpR op_eq (pe_at TFlow (by decide +kernel) (pv 0)) (pe_at TFlow (by decide +kernel) (pv 1)) (nomark _)) (pe_and (pe_cmpR (op_eqD hr.units) (pe_at TFlow (by decide +kernel) (pv 0)) (pe_at TFlow (by decide +kernel) (pv 1)) (nomark _)) (pe_and (pe_cmpR op_eq (pe_at TFlow (by decide +kernel) (pv 0)) (pe_at TFlow (by decide +kernel) (pv 1)) (nomark _)) (pe_and (pe_cmpR (op_eqD hr.units) (pe_at TFlow (by decide +kernel) (pv 0)) (pe_at TFlow (by decide +kernel) (pv 1)) (nomark _)) (pe_and (pe_cmpR (op_eqD hr.units) (pe_at TFlow (by decide +kernel) (pv 0)) (pe_at TFlow (by decide +kernel) (pv 1)) (nomark _)) (pe_and (pe_cmpR (op_eqD hr.units) (pe_at TFlow (by decide +kernel) (pv 0)) (pe_at TFlow (by decide +kernel) (pv 1)) (nomark _)) (pe_and (pe_cmpR op_eq (pe_at TFlow (by decide +kernel) (pv 0)) (pe_at TFlow (by decide +kernel) (pv 1)) (nomark _)) (pe_and (pe_cmpR (op_eqD hr.units) (pe_at TFlow (by decide +kernel) (pv 0)) (pe_at TFlow (by decide +kernel) (pv 1)) (nomark _)) (pe_one (pe_cmpR op_eq (pe_at TFlow (by decide +kernel) (pv 0)) (pe_at TFlow (by decide +kernel) (pv 1)) (nomark _))))))))))))))))), ?_⟩
    show (_ : TS) _ [some _, some _] _
    try dsimp only [cxOf, Cx.nox]
    cases e0
    obtain ⟨d1, r1, r2, r3⟩ := dp_strs (K := K) (H := H) (rs := F0.rs) fun s hs => nameB_ok (ok.rt.nm s hs).2
    obtain ⟨d2, b1, b2, b3⟩ := dp_ams hxs
    obtain ⟨d3, z1, z2, z3⟩ := dp_size hz
    obtain ⟨d4, m1, m2, m3⟩ := dp_man2 hm
    have kk := k H L2.Ext.rfl'
    walk_at "go"
    refine r_isiO Y ha hself ?_
    walk_at "run"
    refine r_true (decide_eq_true rfl) ?_
    walk_at "run"
    obtain ⟨p1, q1⟩ := dp_tup hro r1 r3
    refine eq_self p1 r2 q1 ?_
    walk_at "run"
    obtain ⟨p2, q2⟩ := dp_tup hb b1 b3
    refine eq_self p2 b2 q2 ?_
    walk_at "run"
    refine r_true (decide_eq_true rfl) ?_
    walk_at "run"
    refine eq_self z1 z2 z3 ?_
    walk_at "run"
    refine r_true (decide_eq_true rfl) ?_
    walk_at "run"
    refine eq_am hl hl ?_
    rw [decide_eq_true rfl]
    walk_at "run"
    refine eq_am hc hc ?_
    rw [decide_eq_true rfl]
    walk_at "run"
    refine eq_am hg hg ?_
    rw [decide_eq_true rfl]
    walk_at "run"
    refine r_true (decide_eq_true rfl) ?_
    walk_at "run"
    refine eq_self m1 m2 m3 ?_
    walk_at "run"
    rw [decide_eq_true rfl]
    exact kk
end
end Yk

set_option maxHeartbeats 1000000
/-! An object of one of several classes. -/
namespace Yk
open PySem PySem.Spec PyProof.Rows L2
/-- classes with their kinds; x: the name of one of them -/
structure CtU {κ : Type} (K : PySem.W.Frag) (mg : Str → Option Value) (x : Str) (C0 : Addr) (S : List (Addr × κ)) (fs : List Str) : Prop where
  hm : mg x = some (.ref C0)
  cls : ∀ p ∈ S, Cls K p.1
  no : ∀ p ∈ S, ∀ f ∈ fs, NoAttr K p.1 f
structure MtU {κ : Type} (P : Program) (w : World) (K : PySem.W.Frag) (mg : Str → Option Value) (base : Heap) (k : Nat) (S : List (Addr × κ)) (m : Str) (sp : κ → Sp) : Prop where
  run : ∀ p ∈ S, ∃ f, Cls K p.1 ∧ Meth K p.1 m f ∧ FnR P w K mg base CX0 k f (sp p.2)
section
variable {κ : Type} {X : Cx} {C C0 : Addr} {S : List (Addr × κ)} {k n : Nat} {sp : κ → Sp} {x f m : Str} {fs : List Str} {o e value : Expr} {es : List Expr} {pos pos' p apos : Pos} {te ta tv : TE} {t : TA} {pl : Sem Bool}
def tAtU (S : List (Addr × κ)) (f : Str) (te : TE) : TE := fun σ H Q => te σ H fun x H1 => ∃ a C c dx fs v, x = .ref a ∧ (C, c) ∈ S ∧ H1 a = some (.ins C dx fs) ∧ fs.lookup f = some v ∧ Q v H1
theorem pe_atU (c : CtU X.K X.mg x C0 S fs) (hf : f ∈ fs) (he : PE X e te) (hb : attributeBase e f X.env (eval e X.env) = eval e X.env := by rfl) : PE X (.Attribute e f pos) (tAtU S f te) := by
  refine ⟨fun pins s σ H Q I h => ?_⟩
  refine attr_of hb (thn (he.run pins s σ H _ I h) fun u s1 ⟨x, H1, I1, rx, a, C, kk, dx, fs, v, ex, hC, ea, l, q⟩ => ?_)
  subst ex
  obtain rfl : u = Value.ref a := rx
  exact getattr_ok I1 ea (c.cls _ hC) (c.no _ hC _ hf) l fun u' s2 I2 ru => ⟨v, H1, I2, ru, q⟩
def sAtU (S : List (Addr × κ)) (f : Str) (te tv : TE) : TS := fun D σ H => tv σ H fun y H1 => te σ H1 fun x H2 => ∃ a C c dx fs, x = .ref a ∧ (C, c) ∈ S ∧ H2 a = some (.ins C dx fs) ∧ fs.length < 1000 ∧ D.nx σ (upd H2 a (.ins C dx (putF f y fs)))
theorem ps_atU (c : CtU X.K X.mg x C0 S fs) (hf : f ∈ fs) (ha : PE X o te) (hv : PE X value tv) (hs : swapsWith value (some (.Attribute o f pos')) pos.line X.env = pure false := by rfl) : PS X (.Assign [.Attribute o f pos'] value pos) (sAtU S f te tv) := by
  refine ⟨fun pins s σ H D I h => ?_⟩
  refine plainObj_wpAny_Assign_Attribute (thn (hv.run pins s σ H _ I h) fun u s1 ⟨y, H1, I1, ry, q⟩ => thn (ha.run pins s1 σ H1 _ I1 q) fun ov s2 ⟨x, H2, I2, rx, a, C, kk, dx, fs, ex, hC, ea, l, q2⟩ => ?_) hs
  subst ex
  obtain rfl : ov = Value.ref a := rx
  exact setattr_ok I2 ea (c.cls _ hC) (c.no _ hC _ hf) l ry fun s3 I3 => ⟨σ, _, I3, q2⟩
def tMtU (S : List (Addr × κ)) (m : Str) (sp : κ → Sp) (te : TE) (t : TA) : TE := fun σ H Q => te σ H fun x H1 => ∃ a C c dx fs, x = .ref a ∧ (C, c) ∈ S ∧ H1 a = some (.ins C dx fs) ∧ fs.lookup m = none ∧ t σ H1 fun vs H2 => sp c (x :: vs) H2 Q E0
theorem pe_mtU (F : MtU X.prog X.w X.K X.mg X.base k S m sp) (hr : Room k X.A) (he : PE X o te) (ha : PA X (e :: es) t) (hx : Passes CX0 X E0 := by exact pass0)
    (hst : starEach (e :: es) X.env = (false, eval e X.env) :: starEach es X.env := by rfl) (hpl : (backTo pos (starEach es X.env)).any (·.1) = false := by rfl)
    (ht : eval (.Call (.Attribute o m apos) (e :: es) [] pos) X.env = (do
      let ov ← eval o X.env
      standAt apos.atName
      let (f, first) ← holding [ov] (getMethod ov m pl)
      callWith pos f first (backTo pos (starEach (e :: es) X.env)) (backToKw pos (keywordEach [] X.env))) := by rfl) :
    PE X (.Call (.Attribute o m apos) (e :: es) [] pos) (tMtU S m sp te t) := by
  refine ⟨fun pins s σ H Q I h => ?_⟩
  refine PySem.W.methodCall_KW (pl := pl) (thn (he.run pins s σ H _ I h) fun u s1 ⟨x, H1, I1, rx, a, C, kk, dx, fs, ex, hC, ea, l, q⟩ => ?_) ht
  obtain ⟨f, c, hm, F⟩ := F.run _ hC
  subst ex
  obtain rfl : u = Value.ref a := rx
  refine getmeth_ok I1 ea c hm l ?_
  refine PySem.W.callWith_K (first := [.ref a]) (h₀ := X.base) I.ok.mod.kin hm.kp (thn (ha.run pos pins s1 σ H1 _ I1 q) fun us s2 ⟨vs, H2, I2, r, q2⟩ => ⟨I2.kIn, ?_⟩) hst hpl
  exact wpAny_call (run_fnR (us := .ref a :: us) (vs := .ref a :: vs) F hr hx I2 (.cons rfl r) q2)
theorem pe_mtU0 (F : MtU X.prog X.w X.K X.mg X.base k S m sp) (hr : Room k X.A) (he : PE X o te) (hx : Passes CX0 X E0 := by exact pass0)
    (ht : eval (.Call (.Attribute o m apos) [] [] pos) X.env = (do
      let ov ← eval o X.env
      standAt apos.atName
      let (f, first) ← holding [ov] (getMethod ov m pl)
      callWith pos f first (backTo pos (starEach [] X.env)) (backToKw pos (keywordEach [] X.env))) := by rfl) :
    PE X (.Call (.Attribute o m apos) [] [] pos) (tMtU S m sp te tNil) := by
  refine ⟨fun pins s σ H Q I h => ?_⟩
  refine PySem.W.methodCall_KW (pl := pl) (thn (he.run pins s σ H _ I h) fun u s1 ⟨x, H1, I1, rx, a, C, kk, dx, fs, ex, hC, ea, l, q⟩ => ?_) ht
  obtain ⟨f, c, hm, F⟩ := F.run _ hC
  subst ex
  obtain rfl : u = Value.ref a := rx
  refine getmeth_ok I1 ea c hm l ?_
  exact PySem.W.callWith_K0 (first := [.ref a]) I1.kIn hm.kp (wpAny_call (run_fnR (us := [.ref a]) (vs := [.ref a]) F hr hx I1 (.cons rfl .nil) q))
end
section
variable {κ : Type} {nx : L2.St → Hp → Prop} {rt : VK} {bk ct : L2.St → Hp → Prop} {σ : L2.St} {H : Hp} {Q : VK} {te tv : TE} {S : List (Addr × κ)} {C a dx : Addr} {c : κ} {f m : Str} {fs : List (Str × V)} {v y : V} {sp : κ → Sp} {t : TA}
theorem r_tAtU (h : te σ H fun x H1 => ∃ a C c dx fs v, x = .ref a ∧ (C, c) ∈ S ∧ H1 a = some (.ins C dx fs) ∧ fs.lookup f = some v ∧ Q v H1) : tAtU S f te σ H Q := h
theorem r_fldU {R : V → Prop} (hC : (C, c) ∈ S) (h1 : H a = some (.ins C dx fs)) (h2 : fs.lookup f = some v) (h : R v) : ∃ a' C' c' dx' fs' v', V.ref a = .ref a' ∧ (C', c') ∈ S ∧ H a' = some (.ins C' dx' fs') ∧ fs'.lookup f = some v' ∧ R v' := ⟨a, C, c, dx, fs, v, rfl, hC, h1, h2, h⟩
theorem r_sAtU (h : tv σ H fun y H1 => te σ H1 fun x H2 => ∃ a C c dx fs, x = .ref a ∧ (C, c) ∈ S ∧ H2 a = some (.ins C dx fs) ∧ fs.length < 1000 ∧ nx σ (upd H2 a (.ins C dx (putF f y fs)))) : sAtU S f te tv ⟨nx, rt, bk, ct⟩ σ H := h
theorem r_putUU {R : Hp → Prop} (hC : (C, c) ∈ S) (h1 : H a = some (.ins C dx fs)) (h2 : fs.length < 1000) (h : R (upd H a (.ins C dx (putF f y fs)))) : ∃ a' C' c' dx' fs', V.ref a = .ref a' ∧ (C', c') ∈ S ∧ H a' = some (.ins C' dx' fs') ∧ fs'.length < 1000 ∧ R (upd H a' (.ins C' dx' (putF f y fs'))) := ⟨a, C, c, dx, fs, rfl, hC, h1, h2, h⟩
theorem r_putUV {R : Hp → Prop} (hC : (C, c) ∈ S) (h2 : fs.length < 1000) (h : R (upd H a (.ins C dx (putF f y fs)))) : ∃ a' C' c' dx' fs', V.ref a = .ref a' ∧ (C', c') ∈ S ∧ upd H a (.ins C dx fs) a' = some (.ins C' dx' fs') ∧ fs'.length < 1000 ∧ R (upd (upd H a (.ins C dx fs)) a' (.ins C' dx' (putF f y fs'))) := ⟨a, C, c, dx, fs, rfl, hC, upd_same, h2, by rw [upd_upd]; exact h⟩
theorem r_tMtU (h : te σ H fun x H1 => ∃ a C c dx fs, x = .ref a ∧ (C, c) ∈ S ∧ H1 a = some (.ins C dx fs) ∧ fs.lookup m = none ∧ t σ H1 fun vs H2 => sp c (x :: vs) H2 Q E0) : tMtU S m sp te t σ H Q := h
theorem r_metU {R : κ → V → Prop} (hC : (C, c) ∈ S) (h1 : H a = some (.ins C dx fs)) (h2 : fs.lookup m = none) (h : R c (V.ref a)) : ∃ a' C' c' dx' fs', V.ref a = .ref a' ∧ (C', c') ∈ S ∧ H a' = some (.ins C' dx' fs') ∧ fs'.lookup m = none ∧ R c' (V.ref a) := ⟨a, C, c, dx, fs, rfl, hC, h1, h2, h⟩
end
end Yk

set_option maxHeartbeats 1000000
/-! dicts whose keys are tuples: d.clear(), == and != of two of the same entries. -/
namespace Yk
open PySem PySem.Spec PyProof.Rows L2
section
variable {prog : Program} {w : World} {K : Type} [DecidableEq K] {knd : HeapKind prog w K} {A : Around} {E : Value → Shared → Prop} {s : Shared}
theorem samePairsH {nm : String} {a b : Addr} {xa xb : List (K × Addr × Value)} {Q : Bool → Shared → Prop} (hu : knd.room A) (ha : (a == sysModules) = false) (hb : (b == sysModules) = false)
    (da : s.heap.DictOfH knd a xa) (db : s.heap.DictOfH knd b xb) (hk : xa.map (·.1) = xb.map (·.1))
    (hv : ∀ (i : Nat) (k : K) (p q : Addr × Value), xa[i]? = some (k, p) → xb[i]? = some (k, q) → SeqAt.EqP prog w A s p.2 q.2 true) (h : Q true s) :
    wpAny (model prog w) A (Builtin.Dict.samePairs nm a b) Q E s := by
  obtain ⟨oa, es, ep, hoa, _, hda, hea, hia, hna⟩ := da
  obtain ⟨ob, es', ep', hob, _, hdb, heb, hib, hnb⟩ := db
  have hla : es.size = xa.length := size_of_entries hea
  have hlb : es'.size = xb.length := size_of_entries heb
  have hll : xa.length = xb.length := by simpa using congrArg List.length hk
  have hsz : es.size = es'.size := by omega
  unfold Builtin.Dict.samePairs Builtin.Dict.showsAll
  rw [if_neg (show ¬ (a == sysModules) = true by rw [ha]; exact Bool.false_ne_true), if_neg (show ¬ (b == sysModules) = true by rw [hb]; exact Bool.false_ne_true)]
  refine wpAny_bind (wpAny_pure (wpAny_bind (wpAny_pure ?_)))
  refine wpAny_bind (wpAny_dictEntries hoa hda ?_)
  dsimp only
  refine wpAny_bind (wpAny_dictEntries hob hdb ?_)
  rw [if_neg (by rw [hsz]; simp)]
  refine wpAny_bind (wpAny_dictEpoch hoa hda ?_)
  refine wpAny_bind ?_
  rw [Std.Legacy.Range.forIn_eq_forIn_range']
  simp only [Std.Legacy.Range.size, Nat.sub_zero, Nat.add_sub_cancel, Nat.div_one]
  refine wpAny_forIn_list _
    (fun rest q s' => s' = s ∧ q = (none, ()) ∧ ∃ i, rest = List.range' i (es.size - i) ∧ i ≤ es.size)
    _ ?_ ?_ _ _ ⟨rfl, rfl, 0, by simp, Nat.zero_le _⟩
  · rintro x rest q s' ⟨rfl, rfl, i, hr, hi⟩
    have hlt : i < es.size := by
      rcases Nat.lt_or_ge i es.size with h | h
      · exact h
      · rw [Nat.sub_eq_zero_of_le h] at hr; simp at hr
    obtain ⟨rfl, hrest⟩ : x = i ∧ rest = List.range' (i + 1) (es.size - (i + 1)) := by
      have e : es.size - i = (es.size - (i + 1)) + 1 := by omega
      rw [e, List.range'_succ] at hr
      injection hr with h1 h2
      exact ⟨h1, h2⟩
    refine wpAny_bind (wpAny_dictEntries hoa hda ?_)
    have hlx : x < xa.length := by omega
    obtain ⟨⟨k, c, v⟩, hkv⟩ : ∃ y, xa[x]? = some y := ⟨xa[x], List.getElem?_eq_getElem _⟩
    have hex : es[x]? = some ⟨knd.hash k, .ref c, v⟩ := by rw [entry_at hea x, hkv]; rfl
    rw [hex]
    dsimp only
    have hkc : knd.is s'.heap k c := hia _ (List.mem_of_getElem? hkv)
    obtain ⟨⟨k2, c2, v2⟩, hkv2⟩ : ∃ y, xb[x]? = some y := ⟨xb[x]'(by omega), List.getElem?_eq_getElem _⟩
    have ekk : k2 = k := by
      have h1 : (xa.map (·.1))[x]? = some k := by rw [List.getElem?_map, hkv]; rfl
      have h2 : (xb.map (·.1))[x]? = some k2 := by rw [List.getElem?_map, hkv2]; rfl
      rw [hk, h2] at h1
      exact Option.some.inj h1
    subst ekk
    refine wpAny_bind (wpAny_holding (wpAny_bind (wpAny_dictFind_heap hu hkc hob hdb heb hib hnb (fun hno => absurd hkv2 (hno x _)) fun j p hj => ?_)))
    have hji : j = x := idxH_unique hnb hj hkv2
    subst hji
    have hex2 : es'[j]? = some ⟨knd.hash k2, .ref c2, v2⟩ := by rw [entry_at heb j, hkv2]; rfl
    refine wpAny_bind (wpAny_dictEntries hob hdb ?_)
    rw [hex2]
    dsimp only
    refine wpAny_holding (hv j k2 (c, v) (c2, v2) hkv hkv2 _ _ ?_)
    show wpAny _ _ (if (!true) = true then _ else _) _ _ _
    rw [if_neg (by decide)]
    refine wpAny_bind (wpAny_dictEpoch hoa hda ?_)
    rw [if_neg (by simp)]
    exact wpAny_pure ⟨rfl, rfl, j + 1, hrest, hlt⟩
  · rintro q s' ⟨rfl, rfl, i, hr, hi⟩
    exact wpAny_pure h
theorem ne_H {a b : Addr} {xa xb : List (K × Addr × Value)} {Q : Value → Shared → Prop} (hr : knd.room A.in1) (ha : (a == sysModules) = false) (hb : (b == sysModules) = false)
    (da : s.heap.DictOfH knd a xa) (db : s.heap.DictOfH knd b xb) (hu : A.units < cLine) (hk : xa.map (·.1) = xb.map (·.1))
    (hv : ∀ (i : Nat) (k : K) (p q : Addr × Value), xa[i]? = some (k, p) → xb[i]? = some (k, q) → SeqAt.EqP prog w A.in1 s p.2 q.2 true) (h : Q (.bool false) s) :
    wpAny (model prog w) A (compareOp .NotEq (.ref a) (.ref b)) Q E s := by
  refine wpAny_richCompare_same_room (op := .NotEq) da.typeIs db.typeIs PySem.F.slot_dict_ne (wpAny_call_entry PySem.F.slot_dict_ne da.typeIs PySem.F.entry_dict_ne ?_ (PySem.F.args_dict_ne_2 _ _)) hu
  show wpAny _ _ (Builtin.Dict.dictSlotArgs "__ne__" ⟨[.ref a, .ref b], []⟩ >>= _) _ _ s
  refine wpAny_bind ?_
  unfold Builtin.Dict.dictSlotArgs
  refine wpAny_bind (wpAny_notOrdered_dict da.typeIs ?_)
  show wpAny _ _ (pure (Value.ref a, Value.ref b)) _ _ s
  refine wpAny_pure ?_
  refine wpAny_bind (wpAny_isInstance (T := "dict") db.typeIs PySem.F.sub_dict_dict ?_)
  simp only [Bool.not_true, Bool.false_eq_true, if_false]
  refine wpAny_bind (wpAny_pure (wpAny_bind (wpAny_pure ?_)))
  refine wpAny_bind (samePairsH hr ha hb da db hk hv ?_)
  refine wpAny_pure ⟨_, rfl, ?_, ?_⟩
  · exact fun x => nomatch x
  · simpa using h
end
/-- a != b, two dicts with tuple keys that hold the same: False -/
def rNeT : R2 := fun x y H Q => ∃ a b kvs, x = .ref a ∧ y = .ref b ∧ H a = some (.dT kvs) ∧ H b = some (.dT kvs) ∧ (∀ p ∈ kvs, flatB p.2 = true ∨ ∃ c, p.2 = .ref c) ∧ Q (.bl false) H
theorem kt_at {H : Hp} {kvs : List (List Key × V)} {xs : List (List Key × Addr × Value)} (r : KT H kvs xs) : ∀ {i : Nat} {k : List Key} {p : Addr × Value}, xs[i]? = some (k, p) → ∃ v, kvs[i]? = some (k, v) ∧ RelV v p.2 := by
  induction r with
  | nil => intro i k p h; simp at h
  | @cons x y ps qs hq t ih =>
    intro i k p h
    cases i with
    | zero =>
      obtain ⟨x1, x2⟩ := x
      simp only [List.getElem?_cons_zero, Option.some.injEq] at h
      subst h
      exact ⟨x2, by rw [List.getElem?_cons_zero]; rw [show x1 = k from hq.1], hq.2.2⟩
    | succ i =>
      rw [List.getElem?_cons_succ] at h
      obtain ⟨v, h1, h2⟩ := ih h
      exact ⟨v, by rw [List.getElem?_cons_succ]; exact h1, h2⟩
theorem kt_keys {H : Hp} {kvs : List (List Key × V)} {xs : List (List Key × Addr × Value)} (r : KT H kvs xs) : xs.map (·.1) = kvs.map (·.1) := by
  induction r with
  | nil => rfl
  | cons hq t ih => rw [List.map_cons, List.map_cons, ih, hq.1]
theorem op_ne_T {X : Cx} (hu : X.A.units + 1 < cLine) : OpR X (compareOp .NotEq) rNeT := by
  intro pins s σ H x y v u Q I rx ry h
  obtain ⟨a, b, kvs, rfl, rfl, ea, eb, hp, q⟩ := h
  obtain rfl : v = Value.ref a := rx
  obtain rfl : u = Value.ref b := ry
  obtain ⟨_, ya, xa, ra, da⟩ := dt_of I.hok ea
  obtain ⟨_, yb, xb, rb, db⟩ := dt_of I.hok eb
  refine ne_H (knd := tupleKind (mixKind X.prog X.w)) (tupleKind_room_in1 hu) ya yb da db (by omega) (by rw [kt_keys ra, kt_keys rb]) (fun i k p q h1 h2 => ?_) ⟨.bl false, H, I, rfl, q⟩
  obtain ⟨v1, e1, r1⟩ := kt_at ra h1
  obtain ⟨v2, e2, r2⟩ := kt_at rb h2
  rw [e1] at e2
  obtain rfl : v1 = v2 := by injection e2 with e2; injection e2
  rcases hp _ (List.mem_of_getElem? e1) with f | ⟨c, f⟩
  · exact (eqAt_same r1 r2 f).eqP
  · have f : v1 = .ref c := f
    subst f
    rw [show p.2 = Value.ref c from r1, show q.2 = Value.ref c from r2]
    exact (SeqAt.EqAt.same _).eqP
/-- d.clear(), the keys are tuples -/
def rDClearT : V → List V → Hp → VK → Prop := fun x vs H Q => ∃ (a : Addr) (kvs : List (List Key × V)), x = .ref a ∧ vs = [] ∧ H a = some (.dT kvs) ∧ Q .non (upd H a (.dT []))
theorem mtd_clearT {X : Cx} : MtR X "dict.clear" rDClearT := by
  intro pins s σ H x vs v us Q I rx rv h
  obtain ⟨a, kvs, ex, ev, e, q⟩ := h
  subst ex
  subst ev
  obtain rfl : v = Value.ref a := rx
  have hus := rv.zero
  subst hus
  obtain ⟨z, hd, xs, rel, dd⟩ := dt_of I.hok e
  obtain ⟨o, es, ep, h1, h2, h3, h4, h5, h6⟩ := id dd
  refine call_meetsIn PySem.F.slot_dict_clear dd.typeIs PySem.F.entry_dict_clear (PySem.F.args_dict_clear_1 _) (meets_dict_clear_raw a) ⟨es, ep, ⟨o, h1, h2, h3⟩, by rw [size_of_entries h4, ← Paired.length rel]; exact z, fun h' dd' hs => ?_⟩
  obtain ⟨o', g1, g2, g3⟩ := dd'
  refine ⟨.non, _, d_write (ob := .dT []) (t' := s.toks) I (by rw [e]; exact True.intro) hs ⟨o', g1⟩ ⟨Nat.zero_le _, hd, [], .nil, o', #[], ep + 1, g1, g2, g3, rfl, List.nodup_nil⟩, rfl, q⟩
section
variable {X : Cx} {o : Expr} {to : TE} {apos cpos : Pos}
theorem pe_dclearT (ho : PE X o to) (hbase : attributeBase o "clear" X.env (eval o X.env) = eval o X.env := by rfl) (hline : (apos.endLine == cpos.line) = true := by rfl) : PE X (.Call (.Attribute o "clear" apos) [] [] cpos) (tBM0 X.K "dict" rDClearT to) :=
  pe_bm0 PySem.F.plainAttrs_dict PySem.F.slot_dict_clear PySem.F.type_dict_clear mtd_clearT ho hbase hline
end
/-- dict(d), the keys are ints and texts -/
theorem call_dictC {X : Cx} : CallR X (.type "dict") (fun xs H Q => ∃ (a : Addr) (kvs : List (Key × V)), xs = [.ref a] ∧ H a = some (.dK kvs) ∧ ∀ p, H p = none → Q (.ref p) (upd H p (.dK kvs))) := by
  intro pins s σ H xs us Q I r q
  obtain ⟨a, kvs, ex, e, q⟩ := q
  subst ex
  obtain ⟨u, eu, rx⟩ := vals1 r
  subst eu
  cases rx
  exact d_copyOf I (.inl e) fun p s' hp I' => ⟨.ref p, _, I', rfl, q p hp⟩
end Yk

set_option maxHeartbeats 16000000
namespace Yk
open PySem PySem.Spec PyProof.Rows L2

local macro_rules | `(tactic| walk_at "st") => `(tactic| first
  | with_reducible refine' r_tAt ?_
  | ((with_reducible refine' r_fld ?h1 ?h2 ?h3); (case h1 => first | assumption | exact upd_same); (case h2 => first | walk_at "lk" | rfl))
  | with_reducible refine' r_sAt ?_
  | ((with_reducible refine' r_putU ?h1 ?h2); (case h1 => (repeat refine putF_lt ?_); decide))
  | ((with_reducible refine' r_put ?h1 ?h2 ?h3); (case h1 => first | assumption | exact upd_same); (case h2 => (repeat refine putF_lt ?_); decide))
  | with_reducible refine' r_tMt ?_
  | ((with_reducible refine' r_met ?h1 ?h2 ?h3); (case h1 => first | assumption | exact upd_same); (case h2 => first | walk_at "lk" | rfl))
  | with_reducible refine' r_tCr ?_
  | with_reducible refine' r_tCrK ?_
  | with_reducible refine' r_chain ?_)
local macro_rules | `(tactic| walk_at "st") => `(tactic| first
  | with_reducible refine' r_dget ?_
  | with_reducible refine' r_dc ?_
  | with_reducible refine' r_iVals ?_
  | with_reducible refine' r_dnotin ?_
  | with_reducible refine' r_din ?_
  | with_reducible refine' r_iItems ?_
  | with_reducible refine' r_iKeysT ?_
  | with_reducible refine' r_tget1 ?_
  | with_reducible refine' r_tget2 ?_
  | with_reducible refine' r_dput ?_
  | with_reducible refine' r_tPr ?_
  | ((with_reducible refine' r_prp2 ?h1 ?h2); (case h1 => first | assumption | exact upd_same))
  | with_reducible refine' r_par3 ?_
  | ((with_reducible refine' r_dnT ?_); (intro np hnp))
  | ((with_reducible refine' r_dnK ?_); (intro np hnp)))
local macro_rules | `(tactic| walk_at "st") => `(tactic| first
  | with_reducible refine' r_tAtU ?_
  | ((with_reducible refine' r_fldU ?h0 ?h1 ?h2 ?h3); (case h1 => first | assumption | exact upd_same); (case h0 => first | assumption | walk_at "mem"); (case h2 => first | walk_at "lk" | rfl))
  | with_reducible refine' r_sAtU ?_
  | ((with_reducible refine' r_putUV ?h0 ?h2 ?h3); (case h0 => first | assumption | walk_at "mem"); (case h2 => (repeat refine putF_lt ?_); decide))
  | ((with_reducible refine' r_putUU ?h0 ?h1 ?h2 ?h3); (case h1 => first | assumption | exact upd_same); (case h0 => first | assumption | walk_at "mem"); (case h2 => (repeat refine putF_lt ?_); decide))
  | with_reducible refine' r_tMtU ?_
  | ((with_reducible refine' r_metU ?h0 ?h1 ?h2 ?h3); (case h1 => first | assumption | exact upd_same); (case h0 => first | assumption | walk_at "mem"); (case h2 => first | walk_at "lk" | rfl)))
local macro_rules | `(tactic| walk_at "mem") => `(tactic| (simp only [List.mem_cons, Prod.mk.injEq, List.not_mem_nil, or_false, true_and, and_true, true_or, or_true, reduceCtorEq, and_false, false_or]))
/-! Senders of all kinds: what stands in the heap, how they are made. -/
inductive Kd where
  | no | lv | eg | wi | pr
abbrev S5 (cS cL cE cW cP : Addr) : List (Addr × Kd) := [(cS, .no), (cL, .lv), (cE, .eg), (cW, .wi), (cP, .pr)]
def Kd.cls (cS cL cE cW cP : Addr) : Kd → Addr
  | .no => cS
  | .lv => cL
  | .eg => cE
  | .wi => cW
  | .pr => cP
theorem kd_mem {cS cL cE cW cP : Addr} (c : Kd) : (c.cls cS cL cE cW cP, c) ∈ S5 cS cL cE cW cP := by cases c <;> simp [Kd.cls]
structure St where
  lo : Rat
  hi : Rat
  dn : Int
  bg : Int
  rt : Rat
def St0 (cap : Rat) : St := ⟨0, cap, 0, 0, 0⟩
def Sn3 (vf : V) (age : Int) (vt : V) : List (Str × V) := [("flow", vf), ("age", .int age), ("total", vt)]
def SnX (vf : V) (age : Int) (vt : V) (x : Str) (v : V) : List (Str × V) := [("flow", vf), ("age", .int age), ("total", vt), (x, v)]
def PrFs (vf : V) (age : Int) (vt vb vlo vhi : V) (dn bg : Int) (vr : V) : List (Str × V) := [("flow", vf), ("age", .int age), ("total", vt), ("_bits", vb), ("_low", vlo), ("_high", vhi), ("_done", .int dn), ("_begun", .int bg), ("_rate", vr)]
section
variable {vf vt vb vlo vhi vr v w1 w2 w3 : V} {age dn bg d1 b1 : Int} {x : Str}
theorem sk_flow : List.lookup ("flow" : Str) (Sn3 vf age vt) = some vf := by kernel_rfl
theorem sk_age : List.lookup ("age" : Str) (Sn3 vf age vt) = some (.int age) := by kernel_rfl
theorem sk_total : List.lookup ("total" : Str) (Sn3 vf age vt) = some vt := by kernel_rfl
theorem sx_flow : List.lookup ("flow" : Str) (SnX vf age vt x v) = some vf := by kernel_rfl
theorem sx_age : List.lookup ("age" : Str) (SnX vf age vt x v) = some (.int age) := by kernel_rfl
theorem sx_total : List.lookup ("total" : Str) (SnX vf age vt x v) = some vt := by kernel_rfl
theorem sx_levels : List.lookup ("_levels" : Str) (SnX vf age vt "_levels" v) = some v := by kernel_rfl
theorem sx_door : List.lookup ("_door" : Str) (SnX vf age vt "_door" v) = some v := by kernel_rfl
theorem sx_came : List.lookup ("_came" : Str) (SnX vf age vt "_came" v) = some v := by kernel_rfl
theorem sp_flow : List.lookup ("flow" : Str) (PrFs vf age vt vb vlo vhi dn bg vr) = some vf := by kernel_rfl
theorem sp_age : List.lookup ("age" : Str) (PrFs vf age vt vb vlo vhi dn bg vr) = some (.int age) := by kernel_rfl
theorem sp_total : List.lookup ("total" : Str) (PrFs vf age vt vb vlo vhi dn bg vr) = some vt := by kernel_rfl
theorem sp_bits : List.lookup ("_bits" : Str) (PrFs vf age vt vb vlo vhi dn bg vr) = some vb := by kernel_rfl
theorem sp_low : List.lookup ("_low" : Str) (PrFs vf age vt vb vlo vhi dn bg vr) = some vlo := by kernel_rfl
theorem sp_high : List.lookup ("_high" : Str) (PrFs vf age vt vb vlo vhi dn bg vr) = some vhi := by kernel_rfl
theorem sp_done : List.lookup ("_done" : Str) (PrFs vf age vt vb vlo vhi dn bg vr) = some (.int dn) := by kernel_rfl
theorem sp_begun : List.lookup ("_begun" : Str) (PrFs vf age vt vb vlo vhi dn bg vr) = some (.int bg) := by kernel_rfl
theorem sp_rate : List.lookup ("_rate" : Str) (PrFs vf age vt vb vlo vhi dn bg vr) = some vr := by kernel_rfl
theorem sp_force : List.lookup ("force" : Str) (PrFs vf age vt vb vlo vhi dn bg vr) = none := by kernel_rfl
theorem sp_endtry : List.lookup ("_end_try" : Str) (PrFs vf age vt vb vlo vhi dn bg vr) = none := by kernel_rfl
theorem sx_force : List.lookup ("force" : Str) (SnX vf age vt "_bits" v) = none := by kernel_rfl
theorem pt_S3 : putF "total" vt (putF "age" (.int age) (putF "flow" vf [])) = Sn3 vf age vt := by kernel_rfl
theorem pt_lv : putF "_levels" v (Sn3 vf age vt) = SnX vf age vt "_levels" v := by kernel_rfl
theorem pt_eg : putF "_door" v (Sn3 vf age vt) = SnX vf age vt "_door" v := by kernel_rfl
theorem pt_wi : putF "_came" v (Sn3 vf age vt) = SnX vf age vt "_came" v := by kernel_rfl
theorem pt_pb : putF "_bits" v (Sn3 vf age vt) = SnX vf age vt "_bits" v := by kernel_rfl
theorem pt_pr : putF "_rate" vr (putF "_begun" (.int bg) (putF "_done" (.int dn) (putF "_high" vhi (putF "_low" vlo (SnX vf age vt "_bits" vb))))) = PrFs vf age vt vb vlo vhi dn bg vr := by kernel_rfl
theorem pt_pf : putF "_rate" w3 (putF "_begun" (.int b1) (putF "_done" (.int d1) (putF "_high" w2 (putF "_low" w1 (PrFs vf age vt vb vlo vhi dn bg vr))))) = PrFs vf age vt vb w1 w2 d1 b1 w3 := by kernel_rfl
theorem pt_t3 : putF "total" v (Sn3 vf age vt) = Sn3 vf age v := by kernel_rfl
theorem pt_tx : putF "total" v (SnX vf age vt x w1) = SnX vf age v x w1 := by kernel_rfl
theorem pt_tp : putF "total" v (PrFs vf age vt vb vlo vhi dn bg vr) = PrFs vf age v vb vlo vhi dn bg vr := by kernel_rfl
theorem pt_lo : putF "_low" v (PrFs vf age vt vb vlo vhi dn bg vr) = PrFs vf age vt vb v vhi dn bg vr := by kernel_rfl
theorem pt_hi : putF "_high" v (PrFs vf age vt vb vlo vhi dn bg vr) = PrFs vf age vt vb vlo v dn bg vr := by kernel_rfl
theorem pt_dn : putF "_done" (.int d1) (PrFs vf age vt vb vlo vhi dn bg vr) = PrFs vf age vt vb vlo vhi d1 bg vr := by kernel_rfl
theorem pt_bg : putF "_begun" (.int b1) (PrFs vf age vt vb vlo vhi dn bg vr) = PrFs vf age vt vb vlo vhi dn b1 vr := by kernel_rfl
end
def lvK (n r : Str) : List Key := [.inr "level", .inr r, .inr n, .inr ""]
def bitK (n r : Str) : List Key := [.inr "bit", .inr r, .inr n, .inr n]
def cmK (n : Str) : List Key := [.inr "came", .inr n, .inr n, .inr n]
def rmK (n r : Str) : List Key := [.inr "room", .inr r, .inr n, .inr n]
def KeysAt (H : Hp) (ts : List V) (ks : List (List Key)) : Prop := Rel (fun v k => ∃ t, v = V.ref t ∧ H t = some (.tup (k.map kV))) ts ks
theorem tupR {S : List Addr} {H H1 : Hp} {a : Addr} {xs : List V} (e : Ext S H H1) (h : H a = some (.tup xs)) (hs : NoTup H S) : H1 a = some (.tup xs) := e a _ h fun z => by obtain ⟨o, q, n, _⟩ := hs a z; rw [h] at q; cases q; exact n _ rfl
theorem KeysAt.f {S : List Addr} {H H1 : Hp} {ts : List V} {ks : List (List Key)} (h : KeysAt H ts ks) (e : Ext S H H1) (hs : NoTup H S) : KeysAt H1 ts ks := h.imp fun v k ⟨t, e1, e2⟩ => ⟨t, e1, tupR e e2 hs⟩
theorem KeysAt.x0 {H H1 : Hp} {ts : List V} {ks : List (List Key)} (h : KeysAt H ts ks) (e : Ext [] H H1) : KeysAt H1 ts ks := h.f e fun _ z => nomatch z
/-- all that a sender has; na: a list that it has not -/
def SndAt (cS cL cE cW cP : Addr) (K : PySem.W.Frag) (H : Hp) (na a : Addr) (vf : V) (age : Int) (F : FlowD) (tot : Rat) (st : St) : Kd → Prop
  | .no => ∃ dx vt, H a = some (.ins cS dx (Sn3 vf age vt)) ∧ Am K H vt tot
  | .lv => ∃ dx vt l ts, H a = some (.ins cL dx (SnX vf age vt "_levels" (.ref l))) ∧ Am K H vt tot ∧ H l = some (.lst ts) ∧ l ≠ na ∧ KeysAt H ts (F.rs.map (lvK F.n))
  | .eg => ∃ dx vt vd, H a = some (.ins cE dx (SnX vf age vt "_door" vd)) ∧ Am K H vt tot ∧ Am K H vd F.g
  | .wi => ∃ dx vt t, H a = some (.ins cW dx (SnX vf age vt "_came" (.ref t))) ∧ Am K H vt tot ∧ H t = some (.tup ((cmK F.n).map kV))
  | .pr => ∃ dx vt l ts vlo vhi vr, H a = some (.ins cP dx (PrFs vf age vt (.ref l) vlo vhi st.dn st.bg vr)) ∧ Am K H vt tot ∧ H l = some (.lst ts) ∧ l ≠ na ∧ KeysAt H ts (F.rs.map (bitK F.n)) ∧ Am K H vlo st.lo ∧ Am K H vhi st.hi ∧ Am K H vr st.rt
/-- where a list stands: at na alone -/
def NaLst (H : Hp) (na : Addr) (S : List Addr) : Prop := ∀ b ∈ S, b = na ∨ ∃ o, H b = some o ∧ ∀ xs, o ≠ .lst xs
section
variable {cS cL cE cW cP : Addr} {K : PySem.W.Frag} {H H1 : Hp} {na a : Addr} {vf : V} {age : Int} {F : FlowD} {tot : Rat} {st : St} {c : Kd}
theorem na_lst {S : List Addr} {l : Addr} {xs : List V} (h : NaLst H na S) (hl : H l = some (.lst xs)) (hn : l ≠ na) : l ∉ S := fun z => by
  rcases h l z with q | ⟨o, q, n⟩
  · exact hn q
  · rw [hl] at q; cases q; exact n _ rfl
theorem nolst_na {S : List Addr} (h : NoLst H S) : NaLst H na S := fun b hb => let ⟨o, q, n, _⟩ := h b hb; .inr ⟨o, q, n⟩
theorem na_self : NaLst H na [na] := fun b hb => .inl (List.mem_singleton.mp hb)
theorem SndAt.f {S : List Addr} (h : SndAt cS cL cE cW cP K H na a vf age F tot st c) (e : Ext S H H1) (ns : NoTup H S) (nl : NaLst H na S) (ha : a ∉ S) : SndAt cS cL cE cW cP K H1 na a vf age F tot st c := by
  cases c with
  | no => obtain ⟨dx, vt, h1, h2⟩ := h; exact ⟨dx, vt, e _ _ h1 ha, h2.f e ns⟩
  | lv => obtain ⟨dx, vt, l, ts, h1, h2, h3, h4, h5⟩ := h; exact ⟨dx, vt, l, ts, e _ _ h1 ha, h2.f e ns, e _ _ h3 (na_lst nl h3 h4), h4, h5.f e ns⟩
  | eg => obtain ⟨dx, vt, vd, h1, h2, h3⟩ := h; exact ⟨dx, vt, vd, e _ _ h1 ha, h2.f e ns, h3.f e ns⟩
  | wi => obtain ⟨dx, vt, t, h1, h2, h3⟩ := h; exact ⟨dx, vt, t, e _ _ h1 ha, h2.f e ns, tupR e h3 ns⟩
  | pr => obtain ⟨dx, vt, l, ts, vlo, vhi, vr, h1, h2, h3, h4, h5, h6, h7, h8⟩ := h; exact ⟨dx, vt, l, ts, vlo, vhi, vr, e _ _ h1 ha, h2.f e ns, e _ _ h3 (na_lst nl h3 h4), h4, h5.f e ns, h6.f e ns, h7.f e ns, h8.f e ns⟩
theorem SndAt.x0 (h : SndAt cS cL cE cW cP K H na a vf age F tot st c) (e : Ext [] H H1) : SndAt cS cL cE cW cP K H1 na a vf age F tot st c := h.f e (fun _ z => nomatch z) (fun _ z => nomatch z) (fun z => nomatch z)
/-- what all senders have -/
theorem SndAt.ins (h : SndAt cS cL cE cW cP K H na a vf age F tot st c) : ∃ dx fs vt, H a = some (.ins (c.cls cS cL cE cW cP) dx fs) ∧ fs.length < 900 ∧ List.lookup ("flow" : Str) fs = some vf ∧ List.lookup ("age" : Str) fs = some (.int age) ∧ List.lookup ("total" : Str) fs = some vt ∧ Am K H vt tot ∧
    List.lookup ("offer" : Str) fs = none ∧ List.lookup ("asks" : Str) fs = none ∧ List.lookup ("note_sent" : Str) fs = none ∧ List.lookup ("copy" : Str) fs = none := by
  cases c with
  | no => obtain ⟨dx, vt, h1, h2⟩ := h; exact ⟨dx, _, vt, h1, show 3 < 900 by decide, sk_flow, sk_age, sk_total, h2, by kernel_rfl, by kernel_rfl, by kernel_rfl, by kernel_rfl⟩
  | lv => obtain ⟨dx, vt, l, ts, h1, h2, h3, h4, h5⟩ := h; exact ⟨dx, _, vt, h1, show 4 < 900 by decide, sx_flow, sx_age, sx_total, h2, by kernel_rfl, by kernel_rfl, by kernel_rfl, by kernel_rfl⟩
  | eg => obtain ⟨dx, vt, vd, h1, h2, h3⟩ := h; exact ⟨dx, _, vt, h1, show 4 < 900 by decide, sx_flow, sx_age, sx_total, h2, by kernel_rfl, by kernel_rfl, by kernel_rfl, by kernel_rfl⟩
  | wi => obtain ⟨dx, vt, t, h1, h2, h3⟩ := h; exact ⟨dx, _, vt, h1, show 4 < 900 by decide, sx_flow, sx_age, sx_total, h2, by kernel_rfl, by kernel_rfl, by kernel_rfl, by kernel_rfl⟩
  | pr => obtain ⟨dx, vt, l, ts, vlo, vhi, vr, h1, h2, h3, h4, h5, h6, h7, h8⟩ := h; exact ⟨dx, _, vt, h1, show 9 < 900 by decide, sp_flow, sp_age, sp_total, h2, by kernel_rfl, by kernel_rfl, by kernel_rfl, by kernel_rfl⟩
theorem no_ins' {C dx : Addr} {fs : List (Str × V)} (h : H a = some (.ins C dx fs)) : NaLst H na [a] := nolst_na (no_ins h).2
/-- a new total at a -/
theorem SndAt.put {C dx : Addr} {fs : List (Str × V)} {v : V} {q : Rat} (h : SndAt cS cL cE cW cP K H na a vf age F tot st c) (hfs : H a = some (.ins C dx fs)) (e : Ext [a] H H1) (h1 : H1 a = some (.ins C dx (putF "total" v fs))) (hv : Am K H1 v q) : SndAt cS cL cE cW cP K H1 na a vf age F q st c := by
  have n := no_ins hfs
  have nl : NaLst H na [a] := nolst_na n.2
  cases c with
  | no => obtain ⟨dx, vt, g1, g2⟩ := h; rw [g1] at hfs; cases hfs; exact ⟨dx, v, h1, hv⟩
  | lv => obtain ⟨dx, vt, l, ts, g1, g2, g3, g4, g5⟩ := h; rw [g1] at hfs; cases hfs; exact ⟨dx, v, l, ts, h1, hv, e _ _ g3 (na_lst nl g3 g4), g4, g5.f e n.1⟩
  | eg => obtain ⟨dx, vt, vd, g1, g2, g3⟩ := h; rw [g1] at hfs; cases hfs; exact ⟨dx, v, vd, h1, hv, g3.f e n.1⟩
  | wi => obtain ⟨dx, vt, t, g1, g2, g3⟩ := h; rw [g1] at hfs; cases hfs; exact ⟨dx, v, t, h1, hv, tupR e g3 n.1⟩
  | pr => obtain ⟨dx, vt, l, ts, vlo, vhi, vr, g1, g2, g3, g4, g5, g6, g7, g8⟩ := h; rw [g1] at hfs; cases hfs; exact ⟨dx, v, l, ts, vlo, vhi, vr, h1, hv, e _ _ g3 (na_lst nl g3 g4), g4, g5.f e n.1, g6.f e n.1, g7.f e n.1, g8.f e n.1⟩
end
theorem FlowAt.oo {cF : Addr} {K : PySem.W.Frag} {H H1 : Hp} {C a dx : Addr} {fs : List (Str × V)} {v : V} {F : FlowD} (e : Ext [a] H H1) (ha : H a = some (.ins C dx fs)) (hne : v ≠ .ref a) (h : FlowAt cF K H v F) : FlowAt cF K H1 v F := by
  obtain ⟨b, dy, t1, t2, xs, vz, vl, vc, vg, vm, rfl, h, h1, h2, h3, h4, h5, h6, h7, h8⟩ := h
  refine ⟨b, dy, t1, t2, xs, vz, vl, vc, vg, vm, rfl, e _ _ h fun z => ?_, tupO e ha h1, tupO e ha h2, h3.o e ha, h4.o e ha, h5.o e ha, h6.o e ha, h7.o e ha, h8.o e ha⟩
  exact hne (by rw [List.mem_singleton.mp z])
theorem r_lcT {K : PySem.W.Frag} {a : Addr} {xs : List V} {g : TG} {tt : TT} {te : TE} {vs : List Nat} {σ : L2.St} {H : Hp} {D : Addr} {Qd : Hp → Prop} (Pv : Nat → Hp → Prop) (h0 : Pv 0 (upd H D (.lst []))) (hl : ∀ i H, i ≤ xs.length → Pv i H → SqT K H a xs)
    (hs : ∀ i x H, xs[i]? = some x → Pv i H → g x (wipe σ vs) H fun σ2 H2 => wipe σ2 vs = wipe σ vs ∧ tt σ2 H2 fun b H3 =>
      if b = true then te σ2 H3 fun y H4 => ∃ acc, H4 D = some (.lst acc) ∧ acc.length < sizeLine ∧ Pv (i + 1) (upd H4 D (.lst (acc ++ [y]))) else Pv (i + 1) H3) (hd : ∀ H, Pv xs.length H → Qd H) :
    ∃ W : Nat → Nat → Hp → Prop, (∃ m, W 0 m (upd H D (.lst []))) ∧ ∀ i m H, W i m H →
      ((Itt K a).stop i H ∧ Qd H) ∨ ((Itt K a).go i H ∧ ∃ Nx : Hp → Prop, (∀ H', Nx H' → ∃ m', m' < m ∧ W (i + 1) m' H') ∧ ∀ x H', (Itt K a).yld i H x H' → g x (wipe σ vs) H' fun σ2 H2 => wipe σ2 vs = wipe σ vs ∧ tt σ2 H2 fun b H3 =>
        if b = true then te σ2 H3 fun y H4 => ∃ acc, H4 D = some (.lst acc) ∧ acc.length < sizeLine ∧ Nx (upd H4 D (.lst (acc ++ [y]))) else Nx H3) :=
  lc_tup (Qd := Qd) Pv h0 hl hs hd
section
variable {P : Program} {w : World} {K : PySem.W.Frag} {mg : Str → Option Value} {base : Heap} {f : Addr} {fd : FuncData}
def spSn0 (S : List (Addr × Kd)) (K : PySem.W.Frag) : Sp := fun vs H Q _ => ∃ (a dx C : Addr) (c : Kd) (vf : V) (age : Int), vs = [.ref a, vf, .int age] ∧ (C, c) ∈ S ∧ H a = some (.ins C dx []) ∧ ∀ H' vt, Ext [a] H H' → H' a = some (.ins C dx (Sn3 vf age vt)) → Am K H' vt 0 → Q .non H'
abbrev s_Sender___init__ : Stmt := inClass (top 28) 0
theorem c_Sender___init__ : FnScope ["self", "flow", "age"] ["self", "flow", "age"] (defScope s_Sender___init__) := ⟨rfl, rfl, rfl, by decide +kernel, rfl, by decide +kernel, by decide +kernel⟩
theorem f_Sender___init__ (F : FunD K "__init__" "Sender.__init__" (defArgs s_Sender___init__) (defBody s_Sender___init__) (defScope s_Sender___init__) [] [] f fd) {cS cL cE cW cP : Addr} (TZ : ∃ z, mg "ZERO" = some (.ref z) ∧ ∀ H, SqT K H z [.int 0, .int 1]) (TSender : CtU K mg "Sender" cS (S5 cS cL cE cW cP) ["flow", "age", "total"]) : FnOk P w K mg base CX0 1 f fd ["self", "flow", "age"] (spSn0 (S5 cS cL cE cW cP) K) := by
  refine ok_meth F c_Sender___init__ (fun vs H Q E h => ?_) (fun cdv A outer s H vs Q E hr h => ?_)
  · obtain ⟨a, dx, C, c, vf, age, rfl, _⟩ := h
    rfl
  · obtain ⟨a, dx, C, c, vf, age, rfl, hC, ha, k⟩ := h
    have nd := c_Sender___init__.nd
    obtain ⟨z, mz, htz⟩ := TZ
    refine ⟨_, (pss_cons (ps_atU TSender (by decide +kernel) (pv 0) (pv 1))
      (pss_cons (ps_atU TSender (by decide +kernel) (pv 0) (pv 2))
      (pss_one (ps_atU TSender (by decide +kernel) (pv 0) (pe_glob (v := .ref z) rfl mz rfl))))), ?_⟩
    show (_ : TS) _ [some _, some _, some _] _
    try dsimp only [cxOf, Cx.nox]
    walk_at "go"
    rw [pt_S3]
    exact k _ (.ref z) (Ext.refl.at_ List.mem_cons_self) upd_same ⟨z, rfl, htz _⟩
end
end Yk

set_option maxHeartbeats 16000000
namespace Yk
open PySem PySem.Spec PyProof.Rows L2

local macro_rules | `(tactic| walk_at "st") => `(tactic| first
  | with_reducible refine' r_tAt ?_
  | ((with_reducible refine' r_fld ?h1 ?h2 ?h3); (case h1 => first | assumption | exact upd_same); (case h2 => first | walk_at "lk" | rfl))
  | with_reducible refine' r_sAt ?_
  | ((with_reducible refine' r_putU ?h1 ?h2); (case h1 => (repeat refine putF_lt ?_); decide))
  | ((with_reducible refine' r_put ?h1 ?h2 ?h3); (case h1 => first | assumption | exact upd_same); (case h2 => (repeat refine putF_lt ?_); decide))
  | with_reducible refine' r_tMt ?_
  | ((with_reducible refine' r_met ?h1 ?h2 ?h3); (case h1 => first | assumption | exact upd_same); (case h2 => first | walk_at "lk" | rfl))
  | with_reducible refine' r_tCr ?_
  | with_reducible refine' r_tCrK ?_
  | with_reducible refine' r_chain ?_)
local macro_rules | `(tactic| walk_at "st") => `(tactic| first
  | with_reducible refine' r_dget ?_
  | with_reducible refine' r_dc ?_
  | with_reducible refine' r_iVals ?_
  | with_reducible refine' r_dnotin ?_
  | with_reducible refine' r_din ?_
  | with_reducible refine' r_iItems ?_
  | with_reducible refine' r_iKeysT ?_
  | with_reducible refine' r_tget1 ?_
  | with_reducible refine' r_tget2 ?_
  | with_reducible refine' r_dput ?_
  | with_reducible refine' r_tPr ?_
  | ((with_reducible refine' r_prp2 ?h1 ?h2); (case h1 => first | assumption | exact upd_same))
  | with_reducible refine' r_par3 ?_
  | ((with_reducible refine' r_dnT ?_); (intro np hnp))
  | ((with_reducible refine' r_dnK ?_); (intro np hnp)))
local macro_rules | `(tactic| walk_at "st") => `(tactic| first
  | with_reducible refine' r_tAtU ?_
  | ((with_reducible refine' r_fldU ?h0 ?h1 ?h2 ?h3); (case h1 => first | assumption | exact upd_same); (case h0 => first | assumption | walk_at "mem"); (case h2 => first | walk_at "lk" | rfl))
  | with_reducible refine' r_sAtU ?_
  | ((with_reducible refine' r_putUV ?h0 ?h2 ?h3); (case h0 => first | assumption | walk_at "mem"); (case h2 => (repeat refine putF_lt ?_); decide))
  | ((with_reducible refine' r_putUU ?h0 ?h1 ?h2 ?h3); (case h1 => first | assumption | exact upd_same); (case h0 => first | assumption | walk_at "mem"); (case h2 => (repeat refine putF_lt ?_); decide))
  | with_reducible refine' r_tMtU ?_
  | ((with_reducible refine' r_metU ?h0 ?h1 ?h2 ?h3); (case h1 => first | assumption | exact upd_same); (case h0 => first | assumption | walk_at "mem"); (case h2 => first | walk_at "lk" | rfl)))
local macro_rules | `(tactic| walk_at "mem") => `(tactic| (simp only [List.mem_cons, Prod.mk.injEq, List.not_mem_nil, or_false, true_and, and_true, true_or, or_true, reduceCtorEq, and_false, false_or]))
/-! How senders are made. -/
local macro_rules | `(tactic| walk_at "lk") => `(tactic| first | assumption | with_reducible exact lk_Flow_name | with_reducible exact lk_Flow_route | with_reducible exact lk_Flow_kind | with_reducible exact lk_Flow_size | with_reducible exact lk_Flow_weight | with_reducible exact lk_Flow_cap | with_reducible exact lk_Flow_door | with_reducible exact sx_force | with_reducible exact sp_force | with_reducible exact sp_endtry | with_reducible exact sp_low | with_reducible exact sp_high | with_reducible exact sp_done | with_reducible exact sp_begun | with_reducible exact sp_rate | with_reducible exact sp_flow | with_reducible exact sp_age)
theorem KeysAt.push {H : Hp} {ts : List V} {ks : List (List Key)} {D p : Addr} {l l' : List V} {k : List Key} (h : KeysAt H ts ks) (hp : H p = some (.tup (k.map kV))) (hD : H D = some (.lst l)) : KeysAt (upd H D (.lst l')) (ts ++ [.ref p]) (ks ++ [k]) := by
  have e : Ext [D] H (upd H D (.lst l')) := Ext.refl.at_ List.mem_cons_self
  have n := no_lst hD
  exact (h.f e n).app (.cons ⟨p, rfl, tupR e hp n⟩ .nil)
theorem FlowAt.flds {cF : Addr} {K : PySem.W.Frag} {H : Hp} {v : V} {F : FlowD} (h : FlowAt cF K H v F) : ∃ fa dx t1 t2 vz vl vc vg vm, v = .ref fa ∧ H fa = some (.ins cF dx (FlowFs F.n (.ref t1) (.ref t2) F.d vz F.w vl vc vg F.y vm F.b (F.rs.length : Int))) ∧ SqT K H t1 (F.rs.map V.str) ∧ SizeIs K H vz F.z ∧ Am K H vc F.c ∧ Am K H vg F.g := by
  obtain ⟨fa, dx, t1, t2, xs, vz, vl, vc, vg, vm, e, h, h1, h2, h3, h4, h5, h6, h7, h8⟩ := h
  exact ⟨fa, dx, t1, t2, vz, vl, vc, vg, vm, e, h, h1, h4, h6, h7⟩
section
variable {P : Program} {w : World} {K : PySem.W.Frag} {mg : Str → Option Value} {base : Heap} {f : Addr} {fd : FuncData}
def spSn1 (cF cS cL cE cW cP : Addr) (K : PySem.W.Frag) (c : Kd) : Sp := fun vs H Q _ => ∃ (a dx na : Addr) (o : HO) (vf : V) (age : Int) (F : FlowD), vs = [.ref a, vf, .int age] ∧ H a = some (.ins (c.cls cS cL cE cW cP) dx []) ∧ FlowAt cF K H vf F ∧ vf ≠ .ref a ∧ H na = some o ∧ na ≠ a ∧ F.rs.length ≤ 5 ∧
  ∀ H', Ext [a] H H' → SndAt cS cL cE cW cP K H' na a vf age F 0 (St0 F.c) c → Q .non H'
abbrev s_LevelSender___init__ : Stmt := inClass (top 29) 0
theorem c_LevelSender___init__ : SupScope ["self", "flow", "age", "link"] ["self", "flow", "age"] "self" (defScope s_LevelSender___init__) := ⟨rfl, rfl, rfl, by decide +kernel, rfl, by decide +kernel, by decide +kernel, by decide +kernel, by decide +kernel, by decide +kernel, by decide +kernel, rfl, by decide +kernel⟩
theorem f_LevelSender___init__ (F : FunX P K "__init__" "LevelSender.__init__" (defArgs s_LevelSender___init__) (defBody s_LevelSender___init__) (defScope s_LevelSender___init__) cL f) {f2 : Addr} (Sd : SupD P K cL "__init__" f2) (F2 : FnR P w K mg base CX0 1 f2 (spSn0 (S5 cS cL cE cW cP) K)) (hsup : mg "super" = none) {cF : Addr} (TLevelSender : Ct K mg "LevelSender" cL ["flow", "age", "total", "_levels"]) (TFlow : Ct K mg "Flow" cF ["name", "route", "buffers", "kind", "size", "weight", "least", "cap", "door", "way", "manner", "strange", "last"]) : FnR P w K mg base CX0 2 f (spSn1 cF cS cL cE cW cP K .lv) := by
  refine fnR_sup (N := ["self", "flow", "age", "link"]) (ps := ["self", "flow", "age"]) F (by rfl) Sd F2 hsup (by rfl) c_LevelSender___init__ (by decide +kernel) (fun _ _ _ _ _ _ _ us hl => match us, hl with | [_, _, _], _ => rfl) (fun vs H Q E h => ?_) (fun env h => by unfold interactive; rw [h]; rfl) (fun _ _ => rfl) (fun _ => rfl) (fun _ => rfl) (fun _ _ => rfl) (fun cda cc A outer s H vs Q E hr h => ?_)
  · obtain ⟨a, dx, na, o, vf, age, F, rfl, _⟩ := h
    rfl
  · obtain ⟨a, dx, na, o, vf, age, F0, rfl, ha, hf, hne, hna, nna, l5, k⟩ := h
    have nd := c_LevelSender___init__.nd
    refine ⟨_, _, _, _, _, rfl, ha, (pa_cons (pv 1) (pa_cons (pv 2) pa_nil)), (pss_one (ps_at TLevelSender (by decide +kernel) (pv 0) (pe_lc (own := [("link", 3)]) (g := gName 3) rfl nd (pi_tup (pe_at TFlow (by decide +kernel) (pv 1))) (blkOk_by (N := ["self", "flow", "age", "link"]) (sc := defScope s_LevelSender___init__) (by decide +kernel)) (fun _ _ _ _ _ => pg_name (i := 3) nd rfl (Or.inl rfl)) (fun _ _ _ _ _ => pts_nil) (fun _ _ _ _ _ => (pe_tup (pa_cons pe_str (pa_cons (pv 3) (pa_cons (pe_at TFlow (by decide +kernel) (pv 1) : PE _ _ (tAt _ _ _)) (pa_cons pe_str pa_nil))))))))), ?_⟩
    have ha : H a = some (.ins cL dx []) := ha
    walk_at "go"
    refine ⟨a, dx, cL, .lv, vf, age, rfl, by simp, ha, fun H1 vt e1 ha1 av => ?_⟩
    have hna1 := e1 _ _ hna fun z => nna (List.mem_singleton.mp z)
    obtain ⟨fa, fdx, t1, t2, vz, vl, vc, vg, vm, rfl, hfa, ht1, hz, hcp, hg⟩ := (FlowAt.oo e1 ha hne hf).flds
    walk_at "go"
    refine ⟨t1, rfl, ⟨_, ht1⟩, fun D hD => ?_⟩
    have hDa : D ≠ a := fun z => by rw [z, ha1] at hD; cases hD
    have hDn : D ≠ na := fun z => by rw [z, hna1] at hD; cases hD
    refine r_lcT (xs := F0.rs.map V.str) (fun i H2 => ∃ acc, H2 D = some (.lst acc) ∧ KeysAt H2 acc ((F0.rs.take i).map (lvK F0.n)) ∧ Ext [] H1 H2) ⟨[], upd_same, Rel.nil, Ext.refl.new hD⟩ ?_ ?_ ?_
    · rintro i H2 _ ⟨acc, _, _, e⟩
      exact tup0 e ht1
    · rintro i x H2 hx ⟨acc, hacc, hks, e2⟩
      rw [List.getElem?_map] at hx
      obtain ⟨r, hr, rfl⟩ := Option.map_eq_some_iff.mp hx
      have hi := (List.getElem?_eq_some_iff.mp hr).1
      have hfa2 := e2 _ _ hfa fun z => nomatch z
      walk_at "go"
      refine ⟨rfl, ?_⟩
      walk_at "go"
      rename_i p hp
      have e3 : Ext [] H2 (upd H2 p (.tup [.str "level", .str r, .str F0.n, .str ""])) := Ext.refl.new hp
      have hacc3 := e3 _ _ hacc fun z => nomatch z
      have hal : acc.length ≤ 5 := by rw [hks.1, List.length_map, List.length_take]; omega
      refine ⟨acc, hacc3, Nat.lt_of_le_of_lt hal (by decide), acc ++ [.ref p], upd_same, ?_, (e2.trans e3).own hD⟩
      rw [List.take_add_one, hr, List.map_append]
      exact (hks.x0 e3).push upd_same hacc3
    · rintro H2 ⟨acc, hacc, hks, e2⟩
      rw [List.length_map, List.take_length] at hks
      have ha2 := e2 _ _ ha1 fun z => nomatch z
      walk_at "go"
      refine ⟨a, dx, _, rfl, ha2, show 3 < 1000 by decide, ?_⟩
      rw [pt_lv]
      have e3 : Ext [a] H2 (upd H2 a (.ins cL dx (SnX (.ref fa) age vt "_levels" (.ref D)))) := Ext.refl.at_ List.mem_cons_self
      have n := no_ins ha2
      exact k _ (e1.trans (e2.of0.trans e3)) ⟨dx, vt, D, acc, upd_same, (av.x0 e2).f e3 n.1, e3 _ _ hacc (fun z => hDa (List.mem_singleton.mp z)), hDn, hks.f e3 n.1⟩
abbrev s_EagerSender___init__ : Stmt := inClass (top 30) 0
theorem c_EagerSender___init__ : SupScope ["self", "flow", "age"] ["self", "flow", "age"] "self" (defScope s_EagerSender___init__) := ⟨rfl, rfl, rfl, by decide +kernel, rfl, by decide +kernel, by decide +kernel, by decide +kernel, by decide +kernel, by decide +kernel, by decide +kernel, rfl, by decide +kernel⟩
theorem f_EagerSender___init__ (F : FunX P K "__init__" "EagerSender.__init__" (defArgs s_EagerSender___init__) (defBody s_EagerSender___init__) (defScope s_EagerSender___init__) cE f) {f2 : Addr} (Sd : SupD P K cE "__init__" f2) (F2 : FnR P w K mg base CX0 1 f2 (spSn0 (S5 cS cL cE cW cP) K)) (hsup : mg "super" = none) {cF : Addr} (TEagerSender : Ct K mg "EagerSender" cE ["flow", "age", "total", "_door"]) (TFlow : Ct K mg "Flow" cF ["name", "route", "buffers", "kind", "size", "weight", "least", "cap", "door", "way", "manner", "strange", "last"]) : FnR P w K mg base CX0 2 f (spSn1 cF cS cL cE cW cP K .eg) := by
  refine fnR_sup (N := ["self", "flow", "age"]) (ps := ["self", "flow", "age"]) F (by rfl) Sd F2 hsup (by rfl) c_EagerSender___init__ (by decide +kernel) (fun _ _ _ _ _ _ _ us hl => match us, hl with | [_, _, _], _ => rfl) (fun vs H Q E h => ?_) (fun env h => by unfold interactive; rw [h]; rfl) (fun _ _ => rfl) (fun _ => rfl) (fun _ => rfl) (fun _ _ => rfl) (fun cda cc A outer s H vs Q E hr h => ?_)
  · obtain ⟨a, dx, na, o, vf, age, F, rfl, _⟩ := h
    rfl
  · obtain ⟨a, dx, na, o, vf, age, F0, rfl, ha, hf, hne, hna, nna, l5, k⟩ := h
    have nd := c_EagerSender___init__.nd
    refine ⟨_, _, _, _, _, rfl, ha, (pa_cons (pv 1) (pa_cons (pv 2) pa_nil)), (pss_one (ps_at TEagerSender (by decide +kernel) (pv 0) (pe_at TFlow (by decide +kernel) (pv 1)))), ?_⟩
    have ha : H a = some (.ins cE dx []) := ha
    walk_at "go"
    refine ⟨a, dx, cE, .eg, vf, age, rfl, by simp, ha, fun H1 vt e1 ha1 av => ?_⟩
    obtain ⟨fa, fdx, t1, t2, vz, vl, vc, vg, vm, rfl, hfa, ht1, hz, hcp, hg⟩ := (FlowAt.oo e1 ha hne hf).flds
    walk_at "go"
    refine ⟨a, dx, _, rfl, ha1, show 3 < 1000 by decide, ?_⟩
    rw [pt_eg]
    have e3 : Ext [a] H1 (upd H1 a (.ins cE dx (SnX (.ref fa) age vt "_door" vg))) := Ext.refl.at_ List.mem_cons_self
    have n := no_ins ha1
    exact k _ (e1.trans e3) ⟨dx, vt, vg, upd_same, av.f e3 n.1, hg.f e3 n.1⟩
abbrev s_WindowSender___init__ : Stmt := inClass (top 31) 0
theorem c_WindowSender___init__ : SupScope ["self", "flow", "age"] ["self", "flow", "age"] "self" (defScope s_WindowSender___init__) := ⟨rfl, rfl, rfl, by decide +kernel, rfl, by decide +kernel, by decide +kernel, by decide +kernel, by decide +kernel, by decide +kernel, by decide +kernel, rfl, by decide +kernel⟩
theorem f_WindowSender___init__ (F : FunX P K "__init__" "WindowSender.__init__" (defArgs s_WindowSender___init__) (defBody s_WindowSender___init__) (defScope s_WindowSender___init__) cW f) {f2 : Addr} (Sd : SupD P K cW "__init__" f2) (F2 : FnR P w K mg base CX0 1 f2 (spSn0 (S5 cS cL cE cW cP) K)) (hsup : mg "super" = none) {cF : Addr} (TWindowSender : Ct K mg "WindowSender" cW ["flow", "age", "total", "_came"]) (TFlow : Ct K mg "Flow" cF ["name", "route", "buffers", "kind", "size", "weight", "least", "cap", "door", "way", "manner", "strange", "last"]) : FnR P w K mg base CX0 2 f (spSn1 cF cS cL cE cW cP K .wi) := by
  refine fnR_sup (N := ["self", "flow", "age"]) (ps := ["self", "flow", "age"]) F (by rfl) Sd F2 hsup (by rfl) c_WindowSender___init__ (by decide +kernel) (fun _ _ _ _ _ _ _ us hl => match us, hl with | [_, _, _], _ => rfl) (fun vs H Q E h => ?_) (fun env h => by unfold interactive; rw [h]; rfl) (fun _ _ => rfl) (fun _ => rfl) (fun _ => rfl) (fun _ _ => rfl) (fun cda cc A outer s H vs Q E hr h => ?_)
  · obtain ⟨a, dx, na, o, vf, age, F, rfl, _⟩ := h
    rfl
  · obtain ⟨a, dx, na, o, vf, age, F0, rfl, ha, hf, hne, hna, nna, l5, k⟩ := h
    have nd := c_WindowSender___init__.nd
    refine ⟨_, _, _, _, _, rfl, ha, (pa_cons (pv 1) (pa_cons (pv 2) pa_nil)), (pss_one (ps_at TWindowSender (by decide +kernel) (pv 0) (pe_tup (pa_cons pe_str (pa_cons (pe_at TFlow (by decide +kernel) (pv 1)) (pa_cons (pe_at TFlow (by decide +kernel) (pv 1)) (pa_cons (pe_at TFlow (by decide +kernel) (pv 1)) pa_nil))))))), ?_⟩
    have ha : H a = some (.ins cW dx []) := ha
    walk_at "go"
    refine ⟨a, dx, cW, .wi, vf, age, rfl, by simp, ha, fun H1 vt e1 ha1 av => ?_⟩
    obtain ⟨fa, fdx, t1, t2, vz, vl, vc, vg, vm, rfl, hfa, ht1, hz, hcp, hg⟩ := (FlowAt.oo e1 ha hne hf).flds
    walk_at "go"
    rename_i p hp
    have e2 : Ext [] H1 (upd H1 p (.tup [.str "came", .str F0.n, .str F0.n, .str F0.n])) := Ext.refl.new hp
    have ha2 := e2 _ _ ha1 fun z => nomatch z
    refine ⟨a, dx, _, rfl, ha2, show 3 < 1000 by decide, ?_⟩
    rw [pt_wi]
    have e3 : Ext [a] (upd H1 p (.tup [.str "came", .str F0.n, .str F0.n, .str F0.n])) (upd (upd H1 p (.tup [.str "came", .str F0.n, .str F0.n, .str F0.n])) a (.ins cW dx (SnX (.ref fa) age vt "_came" (.ref p)))) := Ext.refl.at_ List.mem_cons_self
    have n := no_ins ha2
    exact k _ (e1.trans (e2.of0.trans e3)) ⟨dx, vt, p, upd_same, (av.x0 e2).f e3 n.1, tupR e3 upd_same n.1⟩
def spForce (cP : Addr) : Sp := fun vs H Q _ => ∃ (a dx : Addr) (fs : List (Str × V)) (lo hi r : V) (dn bg : Int), vs = [.ref a, lo, hi, .int dn, .int bg, r] ∧ H a = some (.ins cP dx fs) ∧ fs.length < 900 ∧ Q .non (upd H a (.ins cP dx (putF "_rate" r (putF "_begun" (.int bg) (putF "_done" (.int dn) (putF "_high" hi (putF "_low" lo fs)))))))
abbrev s_ProbeSender_force : Stmt := inClass (top 32) 5
theorem c_ProbeSender_force : FnScope ["self", "low", "high", "done", "begun", "rate"] ["self", "low", "high", "done", "begun", "rate"] (defScope s_ProbeSender_force) := ⟨rfl, rfl, rfl, by decide +kernel, rfl, by decide +kernel, by decide +kernel⟩
theorem f_ProbeSender_force (F : FunD K "force" "ProbeSender.force" (defArgs s_ProbeSender_force) (defBody s_ProbeSender_force) (defScope s_ProbeSender_force) [] [] f fd) {cP : Addr} (TProbeSender : Ct K mg "ProbeSender" cP ["flow", "age", "total", "_bits", "_low", "_high", "_done", "_begun", "_rate"]) : FnOk P w K mg base CX0 1 f fd ["self", "low", "high", "done", "begun", "rate"] (spForce cP) := by
  refine ok_meth F c_ProbeSender_force (fun vs H Q E h => ?_) (fun cdv A outer s H vs Q E hr h => ?_)
  · obtain ⟨a, dx, fs, lo, hi, r, dn, bg, rfl, _⟩ := h
    rfl
  · obtain ⟨a, dx, fs, lo, hi, r, dn, bg, rfl, ha, l9, k⟩ := h
    have nd := c_ProbeSender_force.nd
    refine ⟨_, (pss_cons (ps_at TProbeSender (by decide +kernel) (pv 0) (pv 1))
      (pss_cons (ps_at TProbeSender (by decide +kernel) (pv 0) (pv 2))
      (pss_cons (ps_at TProbeSender (by decide +kernel) (pv 0) (pv 3))
      (pss_cons (ps_at TProbeSender (by decide +kernel) (pv 0) (pv 4))
      (pss_one (ps_at TProbeSender (by decide +kernel) (pv 0) (pv 5))))))), ?_⟩
    show (_ : TS) _ [some _, some _, some _, some _, some _, some _] _
    try dsimp only [cxOf, Cx.nox]
    have p1 : ∀ {x : Str} {v : V} {gs : List (Str × V)} {n : Nat}, gs.length < n → (putF x v gs).length < n + 1 := fun h => putF_lt h
    walk_at "go"
    refine ⟨a, dx, _, rfl, ha, by omega, ?_⟩
    walk_at "go"
    refine ⟨a, dx, _, rfl, upd_same, Nat.lt_of_lt_of_le (p1 l9) (by decide), ?_⟩
    rw [upd_upd]
    walk_at "go"
    refine ⟨a, dx, _, rfl, upd_same, Nat.lt_of_lt_of_le (p1 (p1 l9)) (by decide), ?_⟩
    rw [upd_upd]
    walk_at "go"
    refine ⟨a, dx, _, rfl, upd_same, Nat.lt_of_lt_of_le (p1 (p1 (p1 l9))) (by decide), ?_⟩
    rw [upd_upd]
    walk_at "go"
    refine ⟨a, dx, _, rfl, upd_same, Nat.lt_of_lt_of_le (p1 (p1 (p1 (p1 l9)))) (by decide), ?_⟩
    rw [upd_upd]
    exact k
def spChan (cF : Addr) : Sp := fun vs H Q _ => ∃ (a dx : Addr) (n r : Str) (fs : List (Str × V)), vs = [.ref a, .str "bit", .str r] ∧ H a = some (.ins cF dx fs) ∧ List.lookup ("name" : Str) fs = some (.str n) ∧ ∀ t, H t = none → Q (.ref t) (upd H t (.tup ((bitK n r).map kV)))
abbrev s_Flow_channel_of : Stmt := inClass (top 42) 2
theorem c_Flow_channel_of : FnScope ["self", "kind", "link"] ["self", "kind", "link"] (defScope s_Flow_channel_of) := ⟨rfl, rfl, rfl, by decide +kernel, rfl, by decide +kernel, by decide +kernel⟩
theorem f_Flow_channel_of (F : FunD K "channel_of" "Flow.channel_of" (defArgs s_Flow_channel_of) (defBody s_Flow_channel_of) (defScope s_Flow_channel_of) [] [] f fd) {cF : Addr} (TFlow : Ct K mg "Flow" cF ["name", "route", "buffers", "kind", "size", "weight", "least", "cap", "door", "way", "manner", "strange", "last"]) : FnOk P w K mg base CX0 1 f fd ["self", "kind", "link"] (spChan cF) := by
  refine ok_meth F c_Flow_channel_of (fun vs H Q E h => ?_) (fun cdv A outer s H vs Q E hr h => ?_)
  · obtain ⟨a, dx, n, r, fs, rfl, _⟩ := h
    rfl
  · obtain ⟨a, dx, n, r, fs, rfl, ha, hn, k⟩ := h
    have nd := c_Flow_channel_of.nd
    refine ⟨_, (pss_cons (ps_if (pt_cmpR op_eq (pv 1) pe_str (nomark _))
        (pss_one (ps_ret (pe_tup (pa_cons (pv 1) (pa_cons (pv 2) (pa_cons (pe_at TFlow (by decide +kernel) (pv 0)) (pa_cons (pe_at TFlow (by decide +kernel) (pv 0)) pa_nil)))))))
        pss_nil)
      (pss_one (ps_ret (pe_tup (pa_cons (pv 1) (pa_cons (pe_at TFlow (by decide +kernel) (pv 0)) (pa_cons (pv 2) (pa_cons (pe_at TFlow (by decide +kernel) (pv 0)) pa_nil)))))))), ?_⟩
    show (_ : TS) _ [some _, some _, some _] _
    try dsimp only [cxOf, Cx.nox]
    walk_at "go"
    refine r_true (decide_eq_true rfl) ?_
    walk_at "go"
    rename_i t ht
    exact k t ht
abbrev s_ProbeSender___init__ : Stmt := inClass (top 32) 0
theorem c_ProbeSender___init__ : SupScope ["self", "flow", "age", "link"] ["self", "flow", "age"] "self" (defScope s_ProbeSender___init__) := ⟨rfl, rfl, rfl, by decide +kernel, rfl, by decide +kernel, by decide +kernel, by decide +kernel, by decide +kernel, by decide +kernel, by decide +kernel, rfl, by decide +kernel⟩
theorem f_ProbeSender___init__ (F : FunX P K "__init__" "ProbeSender.__init__" (defArgs s_ProbeSender___init__) (defBody s_ProbeSender___init__) (defScope s_ProbeSender___init__) cP f) {f2 : Addr} (Sd : SupD P K cP "__init__" f2) (F2 : FnR P w K mg base CX0 1 f2 (spSn0 (S5 cS cL cE cW cP) K)) (hsup : mg "super" = none) {cF : Addr} (TZ : ∃ z, mg "ZERO" = some (.ref z) ∧ ∀ H, SqT K H z [.int 0, .int 1]) (TProbeSender : Ct K mg "ProbeSender" cP ["flow", "age", "total", "_bits", "_low", "_high", "_done", "_begun", "_rate"]) (TFlow : Ct K mg "Flow" cF ["name", "route", "buffers", "kind", "size", "weight", "least", "cap", "door", "way", "manner", "strange", "last"]) (MFlow_channel_of : Mt P w K mg base 1 cF "channel_of" (spChan cF)) (MProbeSender_force : Mt P w K mg base 1 cP "force" (spForce cP)) : FnR P w K mg base CX0 2 f (spSn1 cF cS cL cE cW cP K .pr) := by
  refine fnR_sup (N := ["self", "flow", "age", "link"]) (ps := ["self", "flow", "age"]) F (by rfl) Sd F2 hsup (by rfl) c_ProbeSender___init__ (by decide +kernel) (fun _ _ _ _ _ _ _ us hl => match us, hl with | [_, _, _], _ => rfl) (fun vs H Q E h => ?_) (fun env h => by unfold interactive; rw [h]; rfl) (fun _ _ => rfl) (fun _ => rfl) (fun _ => rfl) (fun _ _ => rfl) (fun cda cc A outer s H vs Q E hr h => ?_)
  · obtain ⟨a, dx, na, o, vf, age, F, rfl, _⟩ := h
    rfl
  · obtain ⟨a, dx, na, o, vf, age, F0, rfl, ha, hf, hne, hna, nna, l5, k⟩ := h
    have nd := c_ProbeSender___init__.nd
    obtain ⟨z, mz, htz⟩ := TZ
    refine ⟨_, _, _, _, _, rfl, ha, (pa_cons (pv 1) (pa_cons (pv 2) pa_nil)), (pss_cons (ps_at TProbeSender (by decide +kernel) (pv 0) (pe_lc (own := [("link", 3)]) (g := gName 3) rfl nd (pi_tup (pe_at TFlow (by decide +kernel) (pv 1))) (blkOk_by (N := ["self", "flow", "age", "link"]) (sc := defScope s_ProbeSender___init__) (by decide +kernel)) (fun _ _ _ _ _ => pg_name (i := 3) nd rfl (Or.inl rfl)) (fun _ _ _ _ _ => pts_nil) (fun _ _ _ _ _ => (pe_mt MFlow_channel_of (hr.mono (by decide)) (pv 1) (pa_cons pe_str (pa_cons (pv 3) pa_nil)) : PE _ _ (tMt _ _ _ _ _)))))
      (pss_one (ps_expr (pe_mt MProbeSender_force (hr.mono (by decide)) (pv 0) (pa_cons (pe_glob (v := .ref z) rfl mz rfl) (pa_cons (pe_at TFlow (by decide +kernel) (pv 1)) (pa_cons pe_int (pa_cons pe_int (pa_cons (pe_glob (v := .ref z) rfl mz rfl) pa_nil))))))))), ?_⟩
    have ha : H a = some (.ins cP dx []) := ha
    walk_at "go"
    refine ⟨a, dx, cP, .pr, vf, age, rfl, by simp, ha, fun H1 vt e1 ha1 av => ?_⟩
    have hna1 := e1 _ _ hna fun z => nna (List.mem_singleton.mp z)
    obtain ⟨fa, fdx, t1, t2, vz, vl, vc, vg, vm, rfl, hfa, ht1, hz, hcp, hg⟩ := (FlowAt.oo e1 ha hne hf).flds
    walk_at "go"
    refine ⟨t1, rfl, ⟨_, ht1⟩, fun D hD => ?_⟩
    have hDa : D ≠ a := fun z => by rw [z, ha1] at hD; cases hD
    have hDn : D ≠ na := fun z => by rw [z, hna1] at hD; cases hD
    refine r_lcT (xs := F0.rs.map V.str) (fun i H2 => ∃ acc, H2 D = some (.lst acc) ∧ KeysAt H2 acc ((F0.rs.take i).map (bitK F0.n)) ∧ Ext [] H1 H2) ⟨[], upd_same, Rel.nil, Ext.refl.new hD⟩ ?_ ?_ ?_
    · rintro i H2 _ ⟨acc, _, _, e⟩
      exact tup0 e ht1
    · rintro i x H2 hx ⟨acc, hacc, hks, e2⟩
      rw [List.getElem?_map] at hx
      obtain ⟨r, hr, rfl⟩ := Option.map_eq_some_iff.mp hx
      have hi := (List.getElem?_eq_some_iff.mp hr).1
      have hfa2 := e2 _ _ hfa fun z => nomatch z
      walk_at "go"
      refine ⟨rfl, ?_⟩
      walk_at "go"
      refine ⟨fa, fdx, F0.n, r, _, rfl, hfa2, lk_Flow_name, fun p hp => ?_⟩
      have e3 : Ext [] H2 (upd H2 p (.tup ((bitK F0.n r).map kV))) := Ext.refl.new hp
      have hacc3 := e3 _ _ hacc fun z => nomatch z
      have hal : acc.length ≤ 5 := by rw [hks.1, List.length_map, List.length_take]; omega
      refine ⟨acc, hacc3, Nat.lt_of_le_of_lt hal (by decide), acc ++ [.ref p], upd_same, ?_, (e2.trans e3).own hD⟩
      rw [List.take_add_one, hr, List.map_append]
      exact (hks.x0 e3).push upd_same hacc3
    · rintro H2 ⟨acc, hacc, hks, e2⟩
      rw [List.length_map, List.take_length] at hks
      have ha2 := e2 _ _ ha1 fun z => nomatch z
      walk_at "go"
      refine ⟨a, dx, _, rfl, ha2, show 3 < 1000 by decide, ?_⟩
      rw [pt_pb]
      have e3 : Ext [a] H2 (upd H2 a (.ins cP dx (SnX (.ref fa) age vt "_bits" (.ref D)))) := Ext.refl.at_ List.mem_cons_self
      have n := no_ins ha2
      have hfaa : fa ≠ a := fun z => hne (by rw [z])
      have hfa3 := e3 _ _ (e2 _ _ hfa fun z => nomatch z) fun z => hfaa (List.mem_singleton.mp z)
      walk_at "go"
      refine ⟨a, dx, _, _, _, _, _, _, rfl, upd_same, show 4 < 900 by decide, ?_⟩
      rw [pt_pr, upd_upd]
      walk_at "go"
      have e4 : Ext [a] H2 (upd H2 a (.ins cP dx (PrFs (.ref fa) age vt (.ref D) (.ref z) vc 0 0 (.ref z)))) := Ext.refl.at_ List.mem_cons_self
      exact k _ (e1.trans (e2.of0.trans e4)) ⟨dx, vt, D, acc, _, _, _, upd_same, (av.x0 e2).f e4 n.1, e4 _ _ hacc (fun z => hDa (List.mem_singleton.mp z)), hDn, hks.f e4 n.1, ⟨z, rfl, htz _⟩, (hcp.x0 e2).f e4 n.1, ⟨z, rfl, htz _⟩⟩
end
end Yk

set_option maxHeartbeats 16000000
namespace Yk
open PySem PySem.Spec PyProof.Rows L2

local macro_rules | `(tactic| walk_at "st") => `(tactic| first
  | with_reducible refine' r_tAt ?_
  | ((with_reducible refine' r_fld ?h1 ?h2 ?h3); (case h1 => first | assumption | exact upd_same); (case h2 => first | walk_at "lk" | rfl))
  | with_reducible refine' r_sAt ?_
  | ((with_reducible refine' r_putU ?h1 ?h2); (case h1 => (repeat refine putF_lt ?_); decide))
  | ((with_reducible refine' r_put ?h1 ?h2 ?h3); (case h1 => first | assumption | exact upd_same); (case h2 => (repeat refine putF_lt ?_); decide))
  | with_reducible refine' r_tMt ?_
  | ((with_reducible refine' r_met ?h1 ?h2 ?h3); (case h1 => first | assumption | exact upd_same); (case h2 => first | walk_at "lk" | rfl))
  | with_reducible refine' r_tCr ?_
  | with_reducible refine' r_tCrK ?_
  | with_reducible refine' r_chain ?_)
local macro_rules | `(tactic| walk_at "st") => `(tactic| first
  | with_reducible refine' r_dget ?_
  | with_reducible refine' r_dc ?_
  | with_reducible refine' r_iVals ?_
  | with_reducible refine' r_dnotin ?_
  | with_reducible refine' r_din ?_
  | with_reducible refine' r_iItems ?_
  | with_reducible refine' r_iKeysT ?_
  | with_reducible refine' r_tget1 ?_
  | with_reducible refine' r_tget2 ?_
  | with_reducible refine' r_dput ?_
  | with_reducible refine' r_tPr ?_
  | ((with_reducible refine' r_prp2 ?h1 ?h2); (case h1 => first | assumption | exact upd_same))
  | with_reducible refine' r_par3 ?_
  | ((with_reducible refine' r_dnT ?_); (intro np hnp))
  | ((with_reducible refine' r_dnK ?_); (intro np hnp)))
local macro_rules | `(tactic| walk_at "st") => `(tactic| first
  | with_reducible refine' r_tAtU ?_
  | ((with_reducible refine' r_fldU ?h0 ?h1 ?h2 ?h3); (case h1 => first | assumption | exact upd_same); (case h0 => first | assumption | walk_at "mem"); (case h2 => first | walk_at "lk" | rfl))
  | with_reducible refine' r_sAtU ?_
  | ((with_reducible refine' r_putUV ?h0 ?h2 ?h3); (case h0 => first | assumption | walk_at "mem"); (case h2 => (repeat refine putF_lt ?_); decide))
  | ((with_reducible refine' r_putUU ?h0 ?h1 ?h2 ?h3); (case h1 => first | assumption | exact upd_same); (case h0 => first | assumption | walk_at "mem"); (case h2 => (repeat refine putF_lt ?_); decide))
  | with_reducible refine' r_tMtU ?_
  | ((with_reducible refine' r_metU ?h0 ?h1 ?h2 ?h3); (case h1 => first | assumption | exact upd_same); (case h0 => first | assumption | walk_at "mem"); (case h2 => first | walk_at "lk" | rfl)))
local macro_rules | `(tactic| walk_at "mem") => `(tactic| (simp only [List.mem_cons, Prod.mk.injEq, List.not_mem_nil, or_false, true_and, and_true, true_or, or_true, reduceCtorEq, and_false, false_or]))
/-! What senders offer and ask. -/
local macro_rules | `(tactic| walk_at "lk") => `(tactic| first | assumption | with_reducible exact lk_Flow_name | with_reducible exact lk_Flow_route | with_reducible exact lk_Flow_kind | with_reducible exact lk_Flow_size | with_reducible exact lk_Flow_weight | with_reducible exact lk_Flow_cap | with_reducible exact lk_Flow_door | with_reducible exact sx_force | with_reducible exact sp_force | with_reducible exact sp_endtry | with_reducible exact sp_low | with_reducible exact sp_high | with_reducible exact sp_done | with_reducible exact sp_begun | with_reducible exact sp_rate | with_reducible exact sp_flow | with_reducible exact sp_age | with_reducible exact sp_bits | with_reducible exact sp_total | with_reducible exact sx_flow | with_reducible exact sx_age | with_reducible exact sx_total | with_reducible exact sx_levels | with_reducible exact sx_door | with_reducible exact sx_came | with_reducible exact sk_flow | with_reducible exact sk_age | with_reducible exact sk_total)
/-- what a sender hears -/
structure Hrd (K : PySem.W.Frag) (H : Hp) (n : Str) (rs : List Str) (kvs : List (List Key × V)) (lev : Str → Rat) (bit : Str → Bool) (came : Rat) : Prop where
  lv : ∀ r ∈ rs, (valV kvs (lvK n r) = none ∧ lev r = 0) ∨ ∃ v, valV kvs (lvK n r) = some v ∧ Am K H v (lev r)
  bt : ∀ r ∈ rs, (valV kvs (bitK n r) = none ∧ bit r = false) ∨ valV kvs (bitK n r) = some (.bl (bit r))
  cm : (valV kvs (cmK n) = none ∧ came = 0) ∨ ∃ v, valV kvs (cmK n) = some v ∧ Am K H v came
theorem Hrd.x0 {K : PySem.W.Frag} {H H1 : Hp} {n : Str} {rs : List Str} {kvs : List (List Key × V)} {lev : Str → Rat} {bit : Str → Bool} {came : Rat} (h : Hrd K H n rs kvs lev bit came) (e : Ext [] H H1) : Hrd K H1 n rs kvs lev bit came :=
  ⟨fun r hr => (h.lv r hr).imp id fun ⟨v, a, b⟩ => ⟨v, a, b.x0 e⟩, h.bt, h.cm.imp id fun ⟨v, a, b⟩ => ⟨v, a, b.x0 e⟩⟩
def zq : SizeD → Rat
  | .win q => q
  | _ => 0
def zn : SizeD → Option Int
  | .tries n => some n
  | _ => none
def hgt (rs : List Str) (lev : Str → Rat) : Rat := (rs.map lev).foldl lmin 1000
def halfQ (st : St) : Rat := (st.lo + st.hi) * mkRat 1 2
def offQ (c : Kd) (F : FlowD) (man : Option (Rat × Rat)) (lev : Str → Rat) (came tot rt : Rat) : Rat := match c with
  | .no => 0
  | .lv => shq man F.w.toNat (hgt F.rs lev)
  | .eg => if man.isNone = true then 0 else F.g
  | .wi => if man.isNone = true then 0 else lmin F.g (restQ (zq F.z + came) tot)
  | .pr => rt
def asksQ (c : Kd) (man : Option (Rat × Rat)) (st : St) : Rat := match c with
  | .pr => if man.isNone = true then 0 else halfQ st
  | _ => 0
def srch (cap : Rat) (sz : Option Int) (age now : Int) (gone all : Bool) (s : St) : St :=
  if gone = true then ⟨0, cap, 0, now + 1, 0⟩
  else if now - s.bg < 2 * age then s
  else if sz = some (s.dn + 1) then ⟨0, cap, 0, now, if all = true then halfQ s else s.lo⟩
  else ⟨if all = true then halfQ s else s.lo, if all = true then s.hi else halfQ s, s.dn + 1, now, s.rt⟩
def KdOk (c : Kd) (z : SizeD) : Prop := match c with
  | .wi => ∃ q, z = .win q
  | .pr => ∃ n, z = .tries n
  | _ => True
structure OffB (X M : Nat) (age : Int) (F : FlowD) (man : Option (Rat × Rat)) (lev : Str → Rat) (came tot : Rat) (st : St) : Prop where
  ms : ManSz 2000 man
  lz : ∀ r ∈ F.rs, Sz 2000 (lev r) ∧ lev r ≤ 1000
  r1 : 0 < F.rs.length
  r5 : F.rs.length ≤ 5
  w1 : 1 ≤ F.w
  w2 : F.w ≤ 12
  it : In X M tot
  ic : In X M came
  iz : In X M (zq F.z)
  ig : In X M F.g
  il : In X M st.lo
  ih : In X M st.hi
  X0 : 0 < X
  X4 : X ≤ 2 ^ 400
  M4 : 2 * M ≤ 2 ^ 400
  ag : 0 ≤ age ∧ age ≤ 1000
theorem half_sz {X M : Nat} {age : Int} {F : FlowD} {man : Option (Rat × Rat)} {lev : Str → Rat} {came tot : Rat} {st : St} (h : OffB X M age F man lev came tot st) : Sz 4000 (st.lo + st.hi) := by
  have := h.il.add h.ih
  rw [← Nat.two_mul] at this
  exact szG this h.X0 h.X4 h.M4
theorem sz_half : Sz 4000 (mkRat 1 2) := by
  have h : In 2 1 (mkRat ((1 : Nat) : Int) 2) := In.frac (by decide) (by decide) (by decide)
  exact szG h (by decide) (Nat.le_trans (by decide : 2 ≤ 2 ^ 1) (Nat.pow_le_pow_right (by decide) (by decide))) (Nat.le_trans (by decide : 1 ≤ 2 ^ 1) (Nat.pow_le_pow_right (by decide) (by decide)))
theorem am_half {K : PySem.W.Frag} {H : Hp} {p : Addr} (h : SqT K H p [.int 1, .int 2]) : Am K H (.ref p) (mkRat 1 2) := ⟨p, rfl, h⟩
section
variable {P : Program} {w : World} {K : PySem.W.Frag} {mg : Str → Option Value} {base : Heap} {f : Addr} {fd : FuncData}
def spNoteU (S : List (Addr × Kd)) (K : PySem.W.Frag) : Sp := fun vs H Q _ => ∃ (a C : Addr) (c : Kd) (dx : Addr) (fs : List (Str × V)) (vt v : V) (tot q : Rat) (X M : Nat), vs = [.ref a, v] ∧ (C, c) ∈ S ∧ H a = some (.ins C dx fs) ∧ fs.length < 900 ∧ List.lookup ("total" : Str) fs = some vt ∧ Am K H vt tot ∧ Am K H v q ∧
  In X M tot ∧ In X M q ∧ 0 < X ∧ X ≤ 2 ^ 400 ∧ 2 * M ≤ 2 ^ 400 ∧ ∀ H' v', Ext [a] H H' → H' a = some (.ins C dx (putF "total" v' fs)) → Am K H' v' (tot + q) → Q .non H'
abbrev s_Sender_note_sent : Stmt := inClass (top 28) 2
theorem c_Sender_note_sent : FnScope ["self", "water"] ["self", "water"] (defScope s_Sender_note_sent) := ⟨rfl, rfl, rfl, by decide +kernel, rfl, by decide +kernel, by decide +kernel⟩
theorem f_Sender_note_sent (F : FunD K "note_sent" "Sender.note_sent" (defArgs s_Sender_note_sent) (defBody s_Sender_note_sent) (defScope s_Sender_note_sent) [] [] f fd) {cS cL cE cW cP : Addr} (TSender : CtU K mg "Sender" cS (S5 cS cL cE cW cP) ["flow", "age", "total"]) (Gplus : Fn P w K mg base 2 "plus" (spPlusI K)) : FnOk P w K mg base CX0 3 f fd ["self", "water"] (spNoteU (S5 cS cL cE cW cP) K) := by
  refine ok_meth F c_Sender_note_sent (fun vs H Q E h => ?_) (fun cdv A outer s H vs Q E hr h => ?_)
  · obtain ⟨a, C, c, dx, fs, vt, v, tot, q, X, M, rfl, _⟩ := h
    rfl
  · obtain ⟨a, C, c, dx, fs, vt, v, tot, q, X, M, rfl, hC, ha, l9, lt, at_, av, i1, i2, X0, X4, M4, k⟩ := h
    have nd := c_Sender_note_sent.nd
    refine ⟨_, (pss_one (ps_atU TSender (by decide +kernel) (pv 0) (pe_fn Gplus (hr.mono (by decide)) (pa_cons (pe_atU TSender (by decide +kernel) (pv 0)) (pa_cons (pv 1) pa_nil))))), ?_⟩
    show (_ : TS) _ [some _, some _] _
    try dsimp only [cxOf, Cx.nox]
    walk_at "go"
    refine ⟨[tot, q], X, M, Ams.cons at_ (Ams.cons av Ams.nil), fun p hp => ?_, X0, X4, by simpa using M4, (show 2 ≤ 4000 by decide), fun v' H1 e1 a1 => ?_⟩
    · simp only [List.mem_cons, List.not_mem_nil, or_false] at hp
      rcases hp with rfl | rfl
      · exact i1
      · exact i2
    have ha1 := e1 _ _ ha fun z => nomatch z
    rw [show sumQ [tot, q] = tot + q by simp only [sumQ_cons]; unfold sumQ; simp; try grind] at a1
    walk_at "go"
    refine ⟨a, C, c, dx, _, rfl, hC, ha1, by omega, ?_⟩
    have e2 : Ext [a] H1 (upd H1 a (.ins C dx (putF "total" v' fs))) := Ext.refl.at_ List.mem_cons_self
    exact k _ v' (e1.of0.trans e2) upd_same (a1.f e2 (no_ins ha1).1)
def spWith (S : List (Addr × Kd)) : Sp := fun vs H Q _ => ∃ (a C : Addr) (c : Kd) (dx : Addr) (fs : List (Str × V)) (v : V), vs = [.ref a, v] ∧ (C, c) ∈ S ∧ H a = some (.ins C dx fs) ∧ fs.length < 900 ∧ Q (.ref a) (upd H a (.ins C dx (putF "total" v fs)))
abbrev s_with_total : Stmt := top 34
theorem c_with_total : FnScope ["sender", "total"] ["sender", "total"] (defScope s_with_total) := ⟨rfl, rfl, rfl, by decide +kernel, rfl, by decide +kernel, by decide +kernel⟩
theorem f_with_total (F : FunD K "_with_total" "_with_total" (defArgs s_with_total) (defBody s_with_total) (defScope s_with_total) [] [] f fd) (hm : mg "_with_total" = some (.ref f)) {cS cL cE cW cP : Addr} (TSender : CtU K mg "Sender" cS (S5 cS cL cE cW cP) ["flow", "age", "total"]) : Fn P w K mg base 1 "_with_total" (spWith (S5 cS cL cE cW cP)) := by
  refine fn_def F hm c_with_total (fun vs H Q E h => ?_) (fun _ _ _ _ _ _ us hl => match us, hl with | [_, _], _ => rfl) (fun cdv A outer s H vs Q E hr h => ?_)
  · obtain ⟨a, C, c, dx, fs, v, rfl, _⟩ := h
    rfl
  · obtain ⟨a, C, c, dx, fs, v, rfl, hC, ha, l9, k⟩ := h
    have nd := c_with_total.nd
    refine ⟨_, (pss_cons (ps_atU TSender (by decide +kernel) (pv 0) (pv 1))
      (pss_one (ps_ret (pv 0)))), ?_⟩
    show (_ : TS) _ [some _, some _] _
    try dsimp only [cxOf, Cx.nox]
    walk_at "go"
    refine ⟨a, C, c, dx, fs, rfl, hC, ha, by omega, ?_⟩
    walk_at "go"
    exact k
def spAsk0 (K : PySem.W.Frag) : Sp := fun vs H Q _ => ∃ (a : Addr) (v : V), vs = [.ref a, v] ∧ ∀ u, Am K H u 0 → Q u H
abbrev s_Sender_asks : Stmt := inClass (top 28) 3
theorem c_Sender_asks : FnScope ["self", "manner"] ["self", "manner"] (defScope s_Sender_asks) := ⟨rfl, rfl, rfl, by decide +kernel, rfl, by decide +kernel, by decide +kernel⟩
theorem f_Sender_asks (F : FunD K "asks" "Sender.asks" (defArgs s_Sender_asks) (defBody s_Sender_asks) (defScope s_Sender_asks) [] [] f fd) (TZ : ∃ z, mg "ZERO" = some (.ref z) ∧ ∀ H, SqT K H z [.int 0, .int 1]) : FnOk P w K mg base CX0 4 f fd ["self", "manner"] (spAsk0 K) := by
  refine ok_meth F c_Sender_asks (fun vs H Q E h => ?_) (fun cdv A outer s H vs Q E hr h => ?_)
  · obtain ⟨a, v, rfl, _⟩ := h
    rfl
  · obtain ⟨a, v, rfl, k⟩ := h
    have nd := c_Sender_asks.nd
    obtain ⟨z, mz, htz⟩ := TZ
    refine ⟨_, (pss_one (ps_ret (pe_glob (v := .ref z) rfl mz rfl))), ?_⟩
    show (_ : TS) _ [some _, some _] _
    try dsimp only [cxOf, Cx.nox]
    walk_at "go"
    exact k _ ⟨z, rfl, htz _⟩
def spOff0 (K : PySem.W.Frag) : Sp := fun vs H Q _ => ∃ (a : Addr) (v1 v2 v3 : V), vs = [.ref a, v1, v2, v3] ∧ ∀ u, Am K H u 0 → Q u H
abbrev s_Sender_offer : Stmt := inClass (top 28) 1
theorem c_Sender_offer : FnScope ["self", "now", "manner", "heard"] ["self", "now", "manner", "heard"] (defScope s_Sender_offer) := ⟨rfl, rfl, rfl, by decide +kernel, rfl, by decide +kernel, by decide +kernel⟩
theorem f_Sender_offer (F : FunD K "offer" "Sender.offer" (defArgs s_Sender_offer) (defBody s_Sender_offer) (defScope s_Sender_offer) [] [] f fd) (TZ : ∃ z, mg "ZERO" = some (.ref z) ∧ ∀ H, SqT K H z [.int 0, .int 1]) : FnOk P w K mg base CX0 5 f fd ["self", "now", "manner", "heard"] (spOff0 K) := by
  refine ok_meth F c_Sender_offer (fun vs H Q E h => ?_) (fun cdv A outer s H vs Q E hr h => ?_)
  · obtain ⟨a, v1, v2, v3, rfl, _⟩ := h
    rfl
  · obtain ⟨a, v1, v2, v3, rfl, k⟩ := h
    have nd := c_Sender_offer.nd
    obtain ⟨z, mz, htz⟩ := TZ
    refine ⟨_, (pss_one (ps_ret (pe_glob (v := .ref z) rfl mz rfl))), ?_⟩
    show (_ : TS) _ [some _, some _, some _, some _] _
    try dsimp only [cxOf, Cx.nox]
    walk_at "go"
    exact k _ ⟨z, rfl, htz _⟩
def spOff (cF cS cL cE cW cP : Addr) (K : PySem.W.Frag) (c : Kd) : Sp := fun vs H Q _ => ∃ (a : Addr) (now : Int) (vm : V) (hd : Addr) (vf : V) (age : Int) (F : FlowD) (tot : Rat) (st : St) (na : Addr) (man : Option (Rat × Rat)) (kvs : List (List Key × V)) (lev : Str → Rat) (bit : Str → Bool) (came : Rat) (X M : Nat),
  vs = [.ref a, .int now, vm, .ref hd] ∧ SndAt cS cL cE cW cP K H na a vf age F tot st c ∧ FlowAt cF K H vf F ∧ vf ≠ .ref a ∧ KdOk c F.z ∧ ManIs K H vm man ∧ H hd = some (.dT kvs) ∧ Hrd K H F.n F.rs kvs lev bit came ∧ OffB X M age F man lev came tot st ∧
  ∀ v H', Ext [a] H H' → Am K H' v (offQ c F man lev came tot (srch F.c (zn F.z) age now man.isNone (F.rs.all bit) st).rt) → SndAt cS cL cE cW cP K H' na a vf age F tot (srch F.c (zn F.z) age now man.isNone (F.rs.all bit) st) c → Q v H'
def spAsk (cS cL cE cW cP : Addr) (K : PySem.W.Frag) (c : Kd) : Sp := fun vs H Q _ => ∃ (a : Addr) (v vf : V) (age : Int) (F : FlowD) (tot : Rat) (st : St) (na : Addr) (man : Option (Rat × Rat)) (X M : Nat), vs = [.ref a, v] ∧ SndAt cS cL cE cW cP K H na a vf age F tot st c ∧ ManIs K H v man ∧ In X M st.lo ∧ In X M st.hi ∧ 0 < X ∧ X ≤ 2 ^ 400 ∧ 2 * M ≤ 2 ^ 400 ∧
  ∀ u H', Ext [] H H' → Am K H' u (asksQ c man st) → Q u H'
abbrev s_EagerSender_offer : Stmt := inClass (top 30) 1
theorem c_EagerSender_offer : FnScope ["self", "now", "manner", "heard"] ["self", "now", "manner", "heard"] (defScope s_EagerSender_offer) := ⟨rfl, rfl, rfl, by decide +kernel, rfl, by decide +kernel, by decide +kernel⟩
theorem f_EagerSender_offer (F : FunD K "offer" "EagerSender.offer" (defArgs s_EagerSender_offer) (defBody s_EagerSender_offer) (defScope s_EagerSender_offer) [] [] f fd) {cF cS cL cE cW cP : Addr} (TZ : ∃ z, mg "ZERO" = some (.ref z) ∧ ∀ H, SqT K H z [.int 0, .int 1]) (TEagerSender : Ct K mg "EagerSender" cE ["flow", "age", "total", "_door"]) : FnOk P w K mg base CX0 5 f fd ["self", "now", "manner", "heard"] (spOff cF cS cL cE cW cP K .eg) := by
  refine ok_meth F c_EagerSender_offer (fun vs H Q E h => ?_) (fun cdv A outer s H vs Q E hr h => ?_)
  · obtain ⟨a, now, vm, hd, vf, age, F, tot, st, na, man, kvs, lev, bit, came, X, M, rfl, _⟩ := h
    rfl
  · obtain ⟨a, now, vm, hd, vf, age, F0, tot, st, na, man, kvs, lev, bit, came, X, M, rfl, hs, hf, hne, hk, hm, hhd, hh, hb, k⟩ := h
    have nd := c_EagerSender_offer.nd
    obtain ⟨z, mz, htz⟩ := TZ
    refine ⟨_, (pss_cons (ps_if (pt_cmpR (op_eqD hr.units) (pv 2) (pe_tup pa_nil) (nomark _))
        (pss_one (ps_ret (pe_glob (v := .ref z) rfl mz rfl)))
        pss_nil)
      (pss_one (ps_ret (pe_at TEagerSender (by decide +kernel) (pv 0))))), ?_⟩
    show (_ : TS) _ [some _, some _, some _, some _] _
    try dsimp only [cxOf, Cx.nox]
    obtain ⟨dx, vt, vd, ha, hvt, hvd⟩ := id hs
    walk_at "go"
    rename_i pe hpe
    have e2 : Ext [] H (upd H pe (.tup [])) := Ext.refl.new hpe
    refine eq_man (hm.x0 e2) tupS ?_
    have ha2 := e2 _ _ ha fun z => nomatch z
    cases man with
    | none =>
      walk_at "run"
      exact k _ _ e2.of0 ⟨z, rfl, htz _⟩ (hs.x0 e2)
    | some pr =>
      walk_at "run"
      exact k _ _ e2.of0 (hvd.x0 e2) (hs.x0 e2)
abbrev s_LevelSender_offer : Stmt := inClass (top 29) 1
theorem c_LevelSender_offer : FnScope ["self", "now", "manner", "heard", "levels", "channel"] ["self", "now", "manner", "heard"] (defScope s_LevelSender_offer) := ⟨rfl, rfl, rfl, by decide +kernel, rfl, by decide +kernel, by decide +kernel⟩
theorem f_LevelSender_offer (F : FunD K "offer" "LevelSender.offer" (defArgs s_LevelSender_offer) (defBody s_LevelSender_offer) (defScope s_LevelSender_offer) [] [] f fd) {cF cS cL cE cW cP : Addr} (TZ : ∃ z, mg "ZERO" = some (.ref z) ∧ ∀ H, SqT K H z [.int 0, .int 1]) (TLevelSender : Ct K mg "LevelSender" cL ["flow", "age", "total", "_levels"]) (TFlow : Ct K mg "Flow" cF ["name", "route", "buffers", "kind", "size", "weight", "least", "cap", "door", "way", "manner", "strange", "last"]) (Fsmallest : Fn P w K mg base 2 "smallest" (spMin minQ K)) (Fshare : Fn P w K mg base 3 "share" (spShare K)) : FnOk P w K mg base CX0 5 f fd ["self", "now", "manner", "heard"] (spOff cF cS cL cE cW cP K .lv) := by
  refine ok_meth F c_LevelSender_offer (fun vs H Q E h => ?_) (fun cdv A outer s H vs Q E hr h => ?_)
  · obtain ⟨a, now, vm, hd, vf, age, F, tot, st, na, man, kvs, lev, bit, came, X, M, rfl, _⟩ := h
    rfl
  · obtain ⟨a, now, vm, hd, vf, age, F0, tot, st, na, man, kvs, lev, bit, came, X, M, rfl, hs, hf, hne, hk, hm, hhd, hh, hb, k⟩ := h
    have nd := c_LevelSender_offer.nd
    obtain ⟨z, mz, htz⟩ := TZ
    refine ⟨_, (pss_cons (ps_setLc (i := 4) (own := [("channel", 5)]) (g := gName 5) rfl nd rfl rfl (sw_true rfl rfl rfl (by decide +kernel)) (pi_list (pe_at TLevelSender (by decide +kernel) (pv 0))) (blkOk_by (N := ["self", "now", "manner", "heard", "levels", "channel"]) (sc := defScope s_LevelSender_offer) (by decide +kernel)) (fun _ _ _ _ _ => pg_name (i := 5) nd rfl (Or.inl rfl)) (fun _ _ _ _ _ => pts_nil) (fun _ _ _ _ _ => (pe_dget2 (hu_of hr) (pv 3) (pv 5) (pe_glob (v := .ref z) rfl mz rfl) ⟨by rfl, by rfl, by rfl, by rfl⟩)))
      (pss_one (ps_ret (pe_fn Fshare (hr.mono (by decide)) (pa_cons (pv 2) (pa_cons (pe_at TFlow (by decide +kernel) (pe_at TLevelSender (by decide +kernel) (pv 0))) (pa_cons (pe_fnS1 Fsmallest (hr.mono (by decide)) (pv 4)) pa_nil))))))), ?_⟩
    show (_ : TS) _ [some _, some _, some _, some _, none, none] _
    try dsimp only [cxOf, Cx.nox]
    obtain ⟨dx, vt, l, ts, ha, hvt, hl, nl, hks⟩ := id hs
    have htl : ts.length = F0.rs.length := by rw [hks.1, List.length_map]
    have r5 := hb.r5
    walk_at "go"
    refine ⟨l, rfl, ⟨_, .inl (.inl hl)⟩, fun D hD => ?_⟩
    refine r_lcL (xs := ts) (fun i H1 => ∃ acc, H1 D = some (.lst acc) ∧ Ams K H1 acc ((F0.rs.map lev).take i) ∧ Ext [] H H1) ⟨[], upd_same, Ams.nil, Ext.refl.new hD⟩ ?_ ?_ ?_
    · rintro i H1 _ ⟨acc, _, _, e⟩
      exact .inl (.inl (e _ _ hl fun z => nomatch z))
    · rintro i x H1 hx ⟨acc, hacc, hams, e1⟩
      obtain ⟨kk, hkk, t, rfl, ht⟩ := hks.at_ hx
      rw [List.getElem?_map] at hkk
      obtain ⟨r, hr, rfl⟩ := Option.map_eq_some_iff.mp hkk
      have hrm := List.mem_of_getElem? hr
      have hhd1 := e1 _ _ hhd fun z => nomatch z
      have ht1 := e1 _ _ ht fun z => nomatch z
      have hi := (List.getElem?_eq_some_iff.mp hr).1
      have hal : acc.length ≤ 5 := by rw [hams.1, List.length_take, List.length_map]; omega
      walk_at "go"
      refine ⟨rfl, ?_⟩
      walk_at "go"
      refine ⟨hd, rfl, .inr ⟨_, .inl hhd1⟩, ?_⟩
      walk_at "go"
      refine ⟨valV kvs (lvK F0.n r), .inr ⟨_, lvK F0.n r, t, .inl hhd1, rfl, ht1, rfl⟩, ?_⟩
      refine ⟨acc, hacc, Nat.lt_of_le_of_lt hal (by decide), acc ++ [_], upd_same, ?_, e1.own hD⟩
      rw [List.take_add_one, List.getElem?_map, hr]
      refine (hams.w hacc).app (Ams.cons (Am.w hacc ?_) Ams.nil)
      rcases (hh.x0 e1).lv r hrm with ⟨h1, h2⟩ | ⟨v, h1, h2⟩
      · rw [h1, h2]
        exact ⟨z, rfl, htz _⟩
      · rw [h1]
        exact h2
    · rintro H1 ⟨acc, hacc, hams, e1⟩
      rw [htl, List.take_of_length_le (by rw [List.length_map]; exact Nat.le_refl _)] at hams
      have ha1 := e1 _ _ ha fun z => nomatch z
      obtain ⟨fa, fdx, t1, t2, vz, vl, vc, vg, vmm, rfl, hfa, _, _, _, _⟩ := (hf.x0 e1).flds
      walk_at "go"
      cases hrs : F0.rs with
      | nil => have := hb.r1; rw [hrs] at this; cases this
      | cons r0 rt =>
        rw [hrs, List.map_cons] at hams
        have hz : ∀ r ∈ r0 :: rt, Sz 2000 (lev r) ∧ lev r ≤ 1000 := by rw [← hrs]; exact hb.lz
        have hl5 : (r0 :: rt).length ≤ 5 := by rw [← hrs]; exact r5
        refine ⟨D, acc, rfl, .inr (.inl (.inl hacc)), lev r0, rt.map lev, hams, fun q hq => ?_, ?_, fun v H2 e2 a2 => ?_⟩
        · rcases List.mem_cons.mp hq with rfl | hq
          · exact (hz r0 List.mem_cons_self).1.mono (by decide)
          · obtain ⟨r, hr, rfl⟩ := List.mem_map.mp hq
            exact (hz r (List.mem_cons_of_mem _ hr)).1.mono (by decide)
        · rw [List.length_map]
          simp only [List.length_cons] at hl5
          omega
        have hq : minQ (lev r0) (rt.map lev) = hgt F0.rs lev := by
          unfold hgt
          rw [hrs, List.map_cons, List.foldl_cons]
          have h1 := (hz r0 List.mem_cons_self).2
          have : lmin 1000 (lev r0) = lev r0 := by unfold lmin; grind
          rw [this]
          rfl
        have hsz : Sz 2000 (hgt F0.rs lev) := by
          rw [← hq]
          have hfold : ∀ (l : List Rat) (p : Rat), Sz 2000 p → (∀ q ∈ l, Sz 2000 q) → Sz 2000 (minQ p l) := by
            intro l
            induction l with
            | nil => intro p hp _; exact hp
            | cons q l ih =>
              intro p hp hl
              show Sz 2000 (minQ (if q < p then q else p) l)
              refine ih _ ?_ fun q' h => hl q' (List.mem_cons_of_mem _ h)
              split
              · exact hl q List.mem_cons_self
              · exact hp
          refine hfold _ _ (hz r0 List.mem_cons_self).1 fun q hq => ?_
          obtain ⟨r, hr, rfl⟩ := List.mem_map.mp hq
          exact (hz r (List.mem_cons_of_mem _ hr)).1
        rw [hq] at a2
        have w1 := hb.w1
        have w2 := hb.w2
        walk_at "go"
        refine ⟨vm, v, F0.w.toNat, man, _, by rw [Int.toNat_of_nonneg (by omega)], (hm.x0 e1).x0 e2, a2, by omega, hb.ms, hsz, fun u H3 e3 a3 => ?_⟩
        have E := (e1.trans e2).trans e3
        exact k u H3 E.of0 a3 (hs.x0 E)
abbrev s_WindowSender_offer : Stmt := inClass (top 31) 1
theorem c_WindowSender_offer : FnScope ["self", "now", "manner", "heard", "bound"] ["self", "now", "manner", "heard"] (defScope s_WindowSender_offer) := ⟨rfl, rfl, rfl, by decide +kernel, rfl, by decide +kernel, by decide +kernel⟩
theorem f_WindowSender_offer (F : FunD K "offer" "WindowSender.offer" (defArgs s_WindowSender_offer) (defBody s_WindowSender_offer) (defScope s_WindowSender_offer) [] [] f fd) {cF cS cL cE cW cP : Addr} (TZ : ∃ z, mg "ZERO" = some (.ref z) ∧ ∀ H, SqT K H z [.int 0, .int 1]) (TWindowSender : Ct K mg "WindowSender" cW ["flow", "age", "total", "_came"]) (TFlow : Ct K mg "Flow" cF ["name", "route", "buffers", "kind", "size", "weight", "least", "cap", "door", "way", "manner", "strange", "last"]) (Gplus : Fn P w K mg base 2 "plus" (spPlusI K)) (Fcompare : Fn P w K mg base 1 "compare" (spCompare K)) (Fminus : Fn P w K mg base 2 "minus" (spMinus K)) (Fsmallest : Fn P w K mg base 2 "smallest" (spMin minQ K)) : FnOk P w K mg base CX0 5 f fd ["self", "now", "manner", "heard"] (spOff cF cS cL cE cW cP K .wi) := by
  refine ok_meth F c_WindowSender_offer (fun vs H Q E h => ?_) (fun cdv A outer s H vs Q E hr h => ?_)
  · obtain ⟨a, now, vm, hd, vf, age, F, tot, st, na, man, kvs, lev, bit, came, X, M, rfl, _⟩ := h
    rfl
  · obtain ⟨a, now, vm, hd, vf, age, F0, tot, st, na, man, kvs, lev, bit, came, X, M, rfl, hs, hf, hne, hk, hm, hhd, hh, hb, k⟩ := h
    have nd := c_WindowSender_offer.nd
    obtain ⟨z, mz, htz⟩ := TZ
    refine ⟨_, (pss_cons (ps_set (i := 4) nd rfl (by first | exact Or.inl rfl | exact Or.inr rfl) (pe_fn Gplus (hr.mono (by decide)) (pa_cons (pe_at TFlow (by decide +kernel) (pe_at TWindowSender (by decide +kernel) (pv 0))) (pa_cons (pe_dget2 (hu_of hr) (pv 3) (pe_at TWindowSender (by decide +kernel) (pv 0)) (pe_glob (v := .ref z) rfl mz rfl) ⟨by rfl, by rfl, by rfl, by rfl⟩) pa_nil))))
      (pss_cons (ps_if (PW.pt (pw_or (pt_cmpR (op_eqD hr.units) (pv 2) (pe_tup pa_nil) (nomark _)) (pw_or1 (pt_cmpR op_lt (pe_fn Fcompare (hr.mono (by decide)) (pa_cons (pv 4) (pa_cons (pe_at TWindowSender (by decide +kernel) (pv 0)) pa_nil))) pe_int (nomark _)))))
        (pss_one (ps_ret (pe_glob (v := .ref z) rfl mz rfl)))
        pss_nil)
      (pss_one (ps_ret (pe_fn Fsmallest (hr.mono (by decide)) (pa_cons (pe_at TFlow (by decide +kernel) (pe_at TWindowSender (by decide +kernel) (pv 0))) (pa_cons (pe_fn Fminus (hr.mono (by decide)) (pa_cons (pv 4) (pa_cons (pe_at TWindowSender (by decide +kernel) (pv 0)) pa_nil))) pa_nil))))))), ?_⟩
    show (_ : TS) _ [some _, some _, some _, some _, none] _
    try dsimp only [cxOf, Cx.nox]
    obtain ⟨dx, vt, t, ha, hvt, ht⟩ := id hs
    obtain ⟨fa, fdx, t1, t2, vz, vl, vcc, vg, vmm, rfl, hfa, _, hz, _, hg⟩ := hf.flds
    obtain ⟨qz, hzq⟩ := hk
    rw [hzq] at hz
    have M4 := hb.M4
    have M4' : M ≤ 2 ^ 400 := by omega
    have z4 : ∀ {q : Rat}, In X M q → Sz 4000 q := fun i => szG i hb.X0 hb.X4 M4'
    have iz : In X M qz := by have := hb.iz; rw [hzq] at this; exact this
    have hoff : offQ .wi F0 man lev came tot (srch F0.c (zn F0.z) age now man.isNone (F0.rs.all bit) st).rt = if man.isNone = true then 0 else lmin F0.g (restQ (qz + came) tot) := by show (if man.isNone = true then 0 else lmin F0.g (restQ (zq F0.z + came) tot)) = _; rw [hzq]; rfl
    rw [hoff] at k
    walk_at "go"
    refine ⟨hd, rfl, .inr ⟨_, .inl hhd⟩, ?_⟩
    walk_at "go"
    refine ⟨valV kvs (cmK F0.n), .inr ⟨_, cmK F0.n, t, .inl hhd, rfl, ht, rfl⟩, ?_⟩
    have hcv : Am K H ((valV kvs (cmK F0.n)).getD (.ref z)) came := by
      rcases hh.cm with ⟨h1, h2⟩ | ⟨v, h1, h2⟩
      · rw [h1, h2]
        exact ⟨z, rfl, htz _⟩
      · rw [h1]
        exact h2
    walk_at "go"
    refine ⟨[qz, came], X, M, Ams.cons hz.1 (Ams.cons hcv Ams.nil), fun p hp => ?_, hb.X0, hb.X4, by simpa using M4, (show 2 ≤ 4000 by decide), fun v' H1 e1 a1 => ?_⟩
    · simp only [List.mem_cons, List.not_mem_nil, or_false] at hp
      rcases hp with rfl | rfl
      · exact iz
      · exact hb.ic
    rw [show sumQ [qz, came] = qz + came by simp only [sumQ_cons]; unfold sumQ; simp; try grind] at a1
    have ib : In X (2 * M) (qz + came) := by have := iz.add hb.ic; rwa [← Nat.two_mul] at this
    have zb : Sz 4000 (qz + came) := szG ib hb.X0 hb.X4 M4
    have ha1 := e1 _ _ ha fun z => nomatch z
    have hfa1 := e1 _ _ hfa fun z => nomatch z
    walk_at "go"
    rename_i pe hpe
    have e2 : Ext [] H1 (upd H1 pe (.tup [])) := Ext.refl.new hpe
    refine eq_man ((hm.x0 e1).x0 e2) tupS ?_
    have ha2 := e2 _ _ ha1 fun z => nomatch z
    have hfa2 := e2 _ _ hfa1 fun z => nomatch z
    have E2 := e1.trans e2
    cases man with
    | none =>
      walk_at "run"
      exact k _ _ E2.of0 ⟨z, rfl, htz _⟩ (hs.x0 E2)
    | some pr =>
      walk_at "run"
      refine ⟨v', vt, qz + came, tot, rfl, a1.x0 e2, hvt.x0 E2, zb, z4 hb.it, ?_⟩
      walk_at "run"
      refine r_dec (fun hlt => ?_) (fun hge => ?_)
      · walk_at "run"
        have h1 : qz + came < tot := (cmp_lt _ _).mp hlt
        refine k _ _ E2.of0 ⟨z, rfl, ?_⟩ (hs.x0 E2)
        have : (if (some pr).isNone = true then (0 : Rat) else lmin F0.g (restQ (qz + came) tot)) = 0 := by
          have := hb.ig.nn
          rw [if_neg (by simp)]
          unfold restQ lmin
          rw [if_pos (Rat.le_of_lt h1)]
          split <;> grind
        rw [this]
        exact htz _
      · have h1 : tot ≤ qz + came := Rat.not_lt.mp fun h => hge ((cmp_lt _ _).mpr h)
        walk_at "run"
        refine ⟨v', vt, qz + came, tot, rfl, a1.x0 e2, hvt.x0 E2, h1, zb, z4 hb.it, fun v2 H3 e3 a3 => ?_⟩
        walk_at "run"
        have ir : In X (2 * M) (qz + came - tot) := ib.sub hb.it h1
        refine ⟨F0.g, [qz + came - tot], Ams.cons ((hg.x0 E2).x0 e3) (Ams.cons a3 Ams.nil), fun q hq => ?_, (show 1 ≤ 4000 by decide), fun v3 H4 e4 a4 => ?_⟩
        · simp only [List.mem_cons, List.not_mem_nil, or_false] at hq
          rcases hq with rfl | rfl
          · exact z4 hb.ig
          · exact szG ir hb.X0 hb.X4 M4
        · have E4 := (E2.trans e3).trans e4
          refine k v3 H4 E4.of0 ?_ (hs.x0 E4)
          rw [if_neg (by simp), rest_eq h1]
          exact a4
abbrev s_ProbeSender_asks : Stmt := inClass (top 32) 2
theorem c_ProbeSender_asks : FnScope ["self", "manner"] ["self", "manner"] (defScope s_ProbeSender_asks) := ⟨rfl, rfl, rfl, by decide +kernel, rfl, by decide +kernel, by decide +kernel⟩
theorem f_ProbeSender_asks (F : FunD K "asks" "ProbeSender.asks" (defArgs s_ProbeSender_asks) (defBody s_ProbeSender_asks) (defScope s_ProbeSender_asks) [] [] f fd) {cS cL cE cW cP : Addr} (TZ : ∃ z, mg "ZERO" = some (.ref z) ∧ ∀ H, SqT K H z [.int 0, .int 1]) (TProbeSender : Ct K mg "ProbeSender" cP ["flow", "age", "total", "_bits", "_low", "_high", "_done", "_begun", "_rate"]) (Gplus : Fn P w K mg base 2 "plus" (spPlusI K)) (Ftimes : Fn P w K mg base 2 "times" (spTimes K)) : FnOk P w K mg base CX0 4 f fd ["self", "manner"] (spAsk cS cL cE cW cP K .pr) := by
  refine ok_meth F c_ProbeSender_asks (fun vs H Q E h => ?_) (fun cdv A outer s H vs Q E hr h => ?_)
  · obtain ⟨a, v, vf, age, F, tot, st, na, man, X, M, rfl, _⟩ := h
    rfl
  · obtain ⟨a, v, vf, age, F0, tot, st, na, man, X, M, rfl, hs, hm, il, ih, X0, X4, M4, k⟩ := h
    have nd := c_ProbeSender_asks.nd
    obtain ⟨z, mz, htz⟩ := TZ
    refine ⟨_, (pss_cons (ps_if (pt_cmpR (op_eqD hr.units) (pv 1) (pe_tup pa_nil) (nomark _))
        (pss_one (ps_ret (pe_glob (v := .ref z) rfl mz rfl)))
        pss_nil)
      (pss_one (ps_ret (pe_fn Ftimes (hr.mono (by decide)) (pa_cons (pe_fn Gplus (hr.mono (by decide)) (pa_cons (pe_at TProbeSender (by decide +kernel) (pv 0)) (pa_cons (pe_at TProbeSender (by decide +kernel) (pv 0)) pa_nil))) (pa_cons (pe_tup (pa_cons pe_int (pa_cons pe_int pa_nil))) pa_nil)))))), ?_⟩
    show (_ : TS) _ [some _, some _] _
    try dsimp only [cxOf, Cx.nox]
    obtain ⟨dx, vt, l, ts, vlo, vhi, vr, ha, hvt, hl, nl, hks, alo, ahi, arr_⟩ := id hs
    walk_at "go"
    rename_i pe hpe
    have e2 : Ext [] H (upd H pe (.tup [])) := Ext.refl.new hpe
    refine eq_man (hm.x0 e2) tupS ?_
    have ha2 := e2 _ _ ha fun z => nomatch z
    cases man with
    | none =>
      walk_at "run"
      exact k _ _ e2 ⟨z, rfl, htz _⟩
    | some pr =>
      walk_at "run"
      refine ⟨[st.lo, st.hi], X, M, Ams.cons (alo.x0 e2) (Ams.cons (ahi.x0 e2) Ams.nil), fun p hp => ?_, X0, X4, by simpa using M4, (show 2 ≤ 4000 by decide), fun v' H1 e1 a1 => ?_⟩
      · simp only [List.mem_cons, List.not_mem_nil, or_false] at hp
        rcases hp with rfl | rfl
        · exact il
        · exact ih
      rw [show sumQ [st.lo, st.hi] = st.lo + st.hi by simp only [sumQ_cons]; unfold sumQ; simp; try grind] at a1
      have iS := il.add ih
      rw [← Nat.two_mul] at iS
      walk_at "run"
      rename_i p2 hp2
      have e3 : Ext [] H1 (upd H1 p2 (.tup [.int 1, .int 2])) := Ext.refl.new hp2
      refine ⟨v', .ref p2, st.lo + st.hi, mkRat 1 2, rfl, a1.x0 e3, am_half tupS, szG iS X0 X4 M4, sz_half, fun u H4 e4 a4 => ?_⟩
      exact k u H4 ((e2.trans e1).trans (e3.trans e4)) a4
end
end Yk

set_option maxHeartbeats 16000000
namespace Yk
open PySem PySem.Spec PyProof.Rows L2

local macro_rules | `(tactic| walk_at "st") => `(tactic| first
  | with_reducible refine' r_tAt ?_
  | ((with_reducible refine' r_fld ?h1 ?h2 ?h3); (case h1 => first | assumption | exact upd_same); (case h2 => first | walk_at "lk" | rfl))
  | with_reducible refine' r_sAt ?_
  | ((with_reducible refine' r_putU ?h1 ?h2); (case h1 => (repeat refine putF_lt ?_); decide))
  | ((with_reducible refine' r_put ?h1 ?h2 ?h3); (case h1 => first | assumption | exact upd_same); (case h2 => (repeat refine putF_lt ?_); decide))
  | with_reducible refine' r_tMt ?_
  | ((with_reducible refine' r_met ?h1 ?h2 ?h3); (case h1 => first | assumption | exact upd_same); (case h2 => first | walk_at "lk" | rfl))
  | with_reducible refine' r_tCr ?_
  | with_reducible refine' r_tCrK ?_
  | with_reducible refine' r_chain ?_)
local macro_rules | `(tactic| walk_at "st") => `(tactic| first
  | with_reducible refine' r_dget ?_
  | with_reducible refine' r_dc ?_
  | with_reducible refine' r_iVals ?_
  | with_reducible refine' r_dnotin ?_
  | with_reducible refine' r_din ?_
  | with_reducible refine' r_iItems ?_
  | with_reducible refine' r_iKeysT ?_
  | with_reducible refine' r_tget1 ?_
  | with_reducible refine' r_tget2 ?_
  | with_reducible refine' r_dput ?_
  | with_reducible refine' r_tPr ?_
  | ((with_reducible refine' r_prp2 ?h1 ?h2); (case h1 => first | assumption | exact upd_same))
  | with_reducible refine' r_par3 ?_
  | ((with_reducible refine' r_dnT ?_); (intro np hnp))
  | ((with_reducible refine' r_dnK ?_); (intro np hnp)))
local macro_rules | `(tactic| walk_at "st") => `(tactic| first
  | with_reducible refine' r_tAtU ?_
  | ((with_reducible refine' r_fldU ?h0 ?h1 ?h2 ?h3); (case h1 => first | assumption | exact upd_same); (case h0 => first | assumption | walk_at "mem"); (case h2 => first | walk_at "lk" | rfl))
  | with_reducible refine' r_sAtU ?_
  | ((with_reducible refine' r_putUV ?h0 ?h2 ?h3); (case h0 => first | assumption | walk_at "mem"); (case h2 => (repeat refine putF_lt ?_); decide))
  | ((with_reducible refine' r_putUU ?h0 ?h1 ?h2 ?h3); (case h1 => first | assumption | exact upd_same); (case h0 => first | assumption | walk_at "mem"); (case h2 => (repeat refine putF_lt ?_); decide))
  | with_reducible refine' r_tMtU ?_
  | ((with_reducible refine' r_metU ?h0 ?h1 ?h2 ?h3); (case h1 => first | assumption | exact upd_same); (case h0 => first | assumption | walk_at "mem"); (case h2 => first | walk_at "lk" | rfl)))
local macro_rules | `(tactic| walk_at "mem") => `(tactic| (simp only [List.mem_cons, Prod.mk.injEq, List.not_mem_nil, or_false, true_and, and_true, true_or, or_true, reduceCtorEq, and_false, false_or]))
/-! Probes; copies. -/
local macro_rules | `(tactic| walk_at "lk") => `(tactic| first | assumption | with_reducible exact lk_Flow_name | with_reducible exact lk_Flow_route | with_reducible exact lk_Flow_kind | with_reducible exact lk_Flow_size | with_reducible exact lk_Flow_weight | with_reducible exact lk_Flow_cap | with_reducible exact lk_Flow_door | with_reducible exact sx_force | with_reducible exact sp_force | with_reducible exact sp_endtry | with_reducible exact sp_low | with_reducible exact sp_high | with_reducible exact sp_done | with_reducible exact sp_begun | with_reducible exact sp_rate | with_reducible exact sp_flow | with_reducible exact sp_age | with_reducible exact sp_bits | with_reducible exact sp_total | with_reducible exact sx_flow | with_reducible exact sx_age | with_reducible exact sx_total | with_reducible exact sx_levels | with_reducible exact sx_door | with_reducible exact sx_came | with_reducible exact sk_flow | with_reducible exact sk_age | with_reducible exact sk_total)
theorem r_fldAug {K : PySem.W.Frag} {ta tv : TE} {rd : V → V → Hp → VK → Prop} {f : Str} {nx : L2.St → Hp → Prop} {rt : VK} {bk ct : L2.St → Hp → Prop} {σ : L2.St} {H : Hp}
    (h : ta σ H fun x H1 => ∃ a C dx fs v, x = .ref a ∧ H1 a = some (.ins C dx fs) ∧ Cls K C ∧ NoAttr K C f ∧ fs.lookup f = some v ∧ tv σ H1 fun y H2 => rd v y H2 fun z H3 => ∃ dx' fs', H3 a = some (.ins C dx' fs') ∧ fs'.length < 1000 ∧ nx σ (upd H3 a (.ins C dx' (putF f z fs')))) : sFldAug K ta tv rd f ⟨nx, rt, bk, ct⟩ σ H := h
def tryS (cap : Rat) (sz : Option Int) (now : Int) (g : Bool) (s : St) : St :=
  if sz = some (s.dn + 1) then ⟨0, cap, 0, now, if g = true then halfQ s else s.lo⟩ else ⟨if g = true then halfQ s else s.lo, if g = true then s.hi else halfQ s, s.dn + 1, now, s.rt⟩
section
variable {P : Program} {w : World} {K : PySem.W.Frag} {mg : Str → Option Value} {base : Heap} {f : Addr} {fd : FuncData}
def spTry (cF cS cL cE cW cP : Addr) (K : PySem.W.Frag) : Sp := fun vs H Q _ => ∃ (a : Addr) (now : Int) (g : Bool) (vf : V) (age : Int) (F : FlowD) (tot : Rat) (st : St) (na : Addr) (n : Int) (X M : Nat), vs = [.ref a, .int now, .bl g] ∧ SndAt cS cL cE cW cP K H na a vf age F tot st .pr ∧ FlowAt cF K H vf F ∧ vf ≠ .ref a ∧ F.z = .tries n ∧
  In X M st.lo ∧ In X M st.hi ∧ 0 < X ∧ X ≤ 2 ^ 400 ∧ 2 * M ≤ 2 ^ 400 ∧ ∀ H', Ext [a] H H' → SndAt cS cL cE cW cP K H' na a vf age F tot (tryS F.c (some n) now g st) .pr → Q .non H'
abbrev s_ProbeSender__end_try : Stmt := inClass (top 32) 6
theorem c_ProbeSender__end_try : FnScope ["self", "now", "granted", "asked"] ["self", "now", "granted"] (defScope s_ProbeSender__end_try) := ⟨rfl, rfl, rfl, by decide +kernel, rfl, by decide +kernel, by decide +kernel⟩
theorem f_ProbeSender__end_try (F : FunD K "_end_try" "ProbeSender._end_try" (defArgs s_ProbeSender__end_try) (defBody s_ProbeSender__end_try) (defScope s_ProbeSender__end_try) [] [] f fd) {cF cS cL cE cW cP : Addr} (TZ : ∃ z, mg "ZERO" = some (.ref z) ∧ ∀ H, SqT K H z [.int 0, .int 1]) (TProbeSender : Ct K mg "ProbeSender" cP ["flow", "age", "total", "_bits", "_low", "_high", "_done", "_begun", "_rate"]) (TFlow : Ct K mg "Flow" cF ["name", "route", "buffers", "kind", "size", "weight", "least", "cap", "door", "way", "manner", "strange", "last"]) (Gplus : Fn P w K mg base 2 "plus" (spPlusI K)) (Ftimes : Fn P w K mg base 2 "times" (spTimes K)) (MProbeSender_force : Mt P w K mg base 1 cP "force" (spForce cP)) : FnOk P w K mg base CX0 3 f fd ["self", "now", "granted"] (spTry cF cS cL cE cW cP K) := by
  refine ok_meth F c_ProbeSender__end_try (fun vs H Q E h => ?_) (fun cdv A outer s H vs Q E hr h => ?_)
  · obtain ⟨a, now, g, vf, age, F, tot, st, na, n, X, M, rfl, _⟩ := h
    rfl
  · obtain ⟨a, now, g, vf, age, F0, tot, st, na, n, X, M, rfl, hs, hf, hne, hz0, il, ih, X0, X4, M4, k⟩ := h
    have nd := c_ProbeSender__end_try.nd
    obtain ⟨z, mz, htz⟩ := TZ
    refine ⟨_, (pss_cons (ps_set (i := 3) nd rfl (by first | exact Or.inl rfl | exact Or.inr rfl) (pe_fn Ftimes (hr.mono (by decide)) (pa_cons (pe_fn Gplus (hr.mono (by decide)) (pa_cons (pe_at TProbeSender (by decide +kernel) (pv 0)) (pa_cons (pe_at TProbeSender (by decide +kernel) (pv 0)) pa_nil))) (pa_cons (pe_tup (pa_cons pe_int (pa_cons pe_int pa_nil))) pa_nil))))
      (pss_mid (ps_if (pt_val (pv 2))
        (pss_one (ps_at TProbeSender (by decide +kernel) (pv 0) (pv 3)))
        (pss_one (ps_at TProbeSender (by decide +kernel) (pv 0) (pv 3))))
      (pss_cons (ps_fldaug (pv 0) pe_int in_add)
      (pss_cons (ps_at TProbeSender (by decide +kernel) (pv 0) (pv 1))
      (pss_one (ps_if (pt_cmpR op_eq (pe_at TProbeSender (by decide +kernel) (pv 0)) (pe_at TFlow (by decide +kernel) (pe_at TProbeSender (by decide +kernel) (pv 0))) (nomark _))
        (pss_one (ps_expr (pe_mt MProbeSender_force (hr.mono (by decide)) (pv 0) (pa_cons (pe_glob (v := .ref z) rfl mz rfl) (pa_cons (pe_at TFlow (by decide +kernel) (pe_at TProbeSender (by decide +kernel) (pv 0))) (pa_cons pe_int (pa_cons (pv 1) (pa_cons (pe_at TProbeSender (by decide +kernel) (pv 0)) pa_nil))))))))
        pss_nil)))))), ?_⟩
    show (_ : TS) _ [some _, some _, some _, none] _
    try dsimp only [cxOf, Cx.nox]
    obtain ⟨dx, vt, l, ts, vlo, vhi, vr, ha, hvt, hl, nl, hks, alo, ahi, art⟩ := id hs
    have hla : l ≠ a := fun z => by rw [z, ha] at hl; cases hl
    walk_at "go"
    refine ⟨[st.lo, st.hi], X, M, Ams.cons alo (Ams.cons ahi Ams.nil), fun p hp => ?_, X0, X4, by simpa using M4, (show 2 ≤ 4000 by decide), fun v' H1 e1 a1 => ?_⟩
    · simp only [List.mem_cons, List.not_mem_nil, or_false] at hp
      rcases hp with rfl | rfl
      · exact il
      · exact ih
    rw [show sumQ [st.lo, st.hi] = st.lo + st.hi by simp only [sumQ_cons]; unfold sumQ; simp; try grind] at a1
    have iS := il.add ih
    rw [← Nat.two_mul] at iS
    walk_at "go"
    rename_i p2 hp2
    have e3 : Ext [] H1 (upd H1 p2 (.tup [.int 1, .int 2])) := Ext.refl.new hp2
    refine ⟨v', .ref p2, st.lo + st.hi, mkRat 1 2, rfl, a1.x0 e3, am_half tupS, szG iS X0 X4 M4, sz_half, fun u H4 e4 a4 => ?_⟩
    have E4 := e1.trans (e3.trans e4)
    have a4 : Am K H4 u (halfQ st) := a4
    have ha4 := E4 _ _ ha fun z => nomatch z
    walk_at "go"
    refine r_mid (fun σ' H' => ∃ vlo' vhi', σ' = [some (V.ref a), some (V.int now), some (V.bl g), some u] ∧ H' a = some (.ins cP dx (PrFs vf age vt (.ref l) vlo' vhi' st.dn st.bg vr)) ∧ Am K H' vlo' (if g = true then halfQ st else st.lo) ∧ Am K H' vhi' (if g = true then st.hi else halfQ st) ∧ Ext [a] H H') ?_ ?_
    · walk_at "go"
      cases g with
      | true =>
        walk_at "run"
        refine ⟨a, dx, _, rfl, ha4, show 9 < 1000 by decide, ?_⟩
        rw [pt_lo]
        have e5 : Ext [a] H4 (upd H4 a (.ins cP dx (PrFs vf age vt (.ref l) u vhi st.dn st.bg vr))) := Ext.refl.at_ List.mem_cons_self
        have n5 := (no_ins ha4).1
        exact ⟨u, vhi, rfl, upd_same, a4.f e5 n5, (ahi.x0 E4).f e5 n5, E4.of0.trans e5⟩
      | false =>
        walk_at "run"
        refine ⟨a, dx, _, rfl, ha4, show 9 < 1000 by decide, ?_⟩
        rw [pt_hi]
        have e5 : Ext [a] H4 (upd H4 a (.ins cP dx (PrFs vf age vt (.ref l) vlo u st.dn st.bg vr))) := Ext.refl.at_ List.mem_cons_self
        have n5 := (no_ins ha4).1
        exact ⟨vlo, u, rfl, upd_same, (alo.x0 E4).f e5 n5, a4.f e5 n5, E4.of0.trans e5⟩
    · rintro σ H5 ⟨vlo', vhi', rfl, ha5, al5, ah5, E5⟩
      have n0 := (no_ins ha).1
      obtain ⟨fa, fdx, t1, t2, vz, vl, vcc, vg, vmm, rfl, hfa, _, hz, hcp, hg⟩ := (FlowAt.oo E5 ha hne hf).flds
      rw [hz0] at hz
      obtain ⟨rfl, _⟩ := hz
      have hfaa : fa ≠ a := fun z => hne (by rw [z])
      walk_at "go"
      refine r_fldAug ?_
      walk_at "go"
      refine ⟨a, cP, dx, _, .int st.dn, rfl, ha5, TProbeSender.cls, TProbeSender.no _ (by decide +kernel), sp_done, ?_⟩
      walk_at "go"
      refine ⟨st.dn, 1, rfl, rfl, dx, _, ha5, show 9 < 1000 by decide, ?_⟩
      rw [pt_dn]
      walk_at "go"
      refine ⟨a, dx, _, rfl, upd_same, show 9 < 1000 by decide, ?_⟩
      rw [pt_bg, upd_upd]
      have e6 : Ext [a] H5 (upd H5 a (.ins cP dx (PrFs (.ref fa) age vt (.ref l) vlo' vhi' (st.dn + 1) now vr))) := Ext.refl.at_ List.mem_cons_self
      have n5 := (no_ins ha5).1
      have hfa6 := e6 _ _ hfa fun z => hfaa (List.mem_singleton.mp z)
      have fin : ∀ {H' : Hp} {w1 w2 w3 : V} {d b : Int} {q1 q2 q3 : Rat}, Ext [a] H5 H' → H' a = some (.ins cP dx (PrFs (.ref fa) age vt (.ref l) w1 w2 d b w3)) → Am K H' w1 q1 → Am K H' w2 q2 → Am K H' w3 q3 → SndAt cS cL cE cW cP K H' na a (.ref fa) age F0 tot ⟨q1, q2, d, b, q3⟩ .pr := fun e h b1 b2 b3 =>
        ⟨dx, vt, l, ts, _, _, _, h, (hvt.f E5 n0).f e n5, e _ _ (E5 _ _ hl fun z => hla (List.mem_singleton.mp z)) (fun z => hla (List.mem_singleton.mp z)), nl, (hks.f E5 n0).f e n5, b1, b2, b3⟩
      walk_at "go"
      refine r_dec (fun he => ?_) (fun he => ?_)
      · have hE : (some n : Option Int) = some (st.dn + 1) := by cases he; rfl
        walk_at "go"
        refine ⟨a, dx, _, .ref z, vcc, vlo', 0, now, rfl, upd_same, show 9 < 900 by decide, ?_⟩
        rw [pt_pf, upd_upd]
        walk_at "go"
        have e7 : Ext [a] H5 (upd H5 a (.ins cP dx (PrFs (.ref fa) age vt (.ref l) (.ref z) vcc 0 now vlo'))) := Ext.refl.at_ List.mem_cons_self
        refine k _ (E5.trans e7) ?_
        unfold tryS
        rw [if_pos hE]
        exact fin e7 upd_same ⟨z, rfl, htz _⟩ (hcp.f e7 n5) (al5.f e7 n5)
      · have hE : ¬ (some n : Option Int) = some (st.dn + 1) := fun h => he (by cases h; rfl)
        walk_at "go"
        refine k _ (E5.trans e6) ?_
        unfold tryS
        rw [if_neg hE]
        exact fin e6 upd_same (al5.f e6 n5) (ah5.f e6 n5) ((art.f E5 n0).f e6 n5)
abbrev s_ProbeSender_offer : Stmt := inClass (top 32) 1
theorem c_ProbeSender_offer : FnScope ["self", "now", "manner", "heard", "channel"] ["self", "now", "manner", "heard"] (defScope s_ProbeSender_offer) := ⟨rfl, rfl, rfl, by decide +kernel, rfl, by decide +kernel, by decide +kernel⟩
theorem f_ProbeSender_offer (F : FunD K "offer" "ProbeSender.offer" (defArgs s_ProbeSender_offer) (defBody s_ProbeSender_offer) (defScope s_ProbeSender_offer) [] [] f fd) {cF cS cL cE cW cP : Addr} (T : Bt mg) (TZ : ∃ z, mg "ZERO" = some (.ref z) ∧ ∀ H, SqT K H z [.int 0, .int 1]) (TProbeSender : Ct K mg "ProbeSender" cP ["flow", "age", "total", "_bits", "_low", "_high", "_done", "_begun", "_rate"]) (TFlow : Ct K mg "Flow" cF ["name", "route", "buffers", "kind", "size", "weight", "least", "cap", "door", "way", "manner", "strange", "last"]) (MProbeSender_force : Mt P w K mg base 1 cP "force" (spForce cP)) (MProbeSender__end_try : Mt P w K mg base 3 cP "_end_try" (spTry cF cS cL cE cW cP K)) : FnOk P w K mg base CX0 5 f fd ["self", "now", "manner", "heard"] (spOff cF cS cL cE cW cP K .pr) := by
  refine ok_meth F c_ProbeSender_offer (fun vs H Q E h => ?_) (fun cdv A outer s H vs Q E hr h => ?_)
  · obtain ⟨a, now, vm, hd, vf, age, F, tot, st, na, man, kvs, lev, bit, came, X, M, rfl, _⟩ := h
    rfl
  · obtain ⟨a, now, vm, hd, vf, age, F0, tot, st, na, man, kvs, lev, bit, came, X, M, rfl, hs, hf, hne, hk, hm, hhd, hh, hb, k⟩ := h
    have nd := c_ProbeSender_offer.nd
    obtain ⟨z, mz, htz⟩ := TZ
    refine ⟨_, (pss_cons (ps_if (pt_cmpR (op_eqD hr.units) (pv 2) (pe_tup pa_nil) (nomark _))
        (pss_one (ps_expr (pe_mt MProbeSender_force (hr.mono (by decide)) (pv 0) (pa_cons (pe_glob (v := .ref z) rfl mz rfl) (pa_cons (pe_at TFlow (by decide +kernel) (pe_at TProbeSender (by decide +kernel) (pv 0))) (pa_cons pe_int (pa_cons (pe_op op_add (pv 1) pe_int) (pa_cons (pe_glob (v := .ref z) rfl mz rfl) pa_nil))))))))
        (pss_one (ps_if (pt_cmpR op_ge (pe_op op_sub (pv 1) (pe_at TProbeSender (by decide +kernel) (pv 0))) (pe_op op_mul pe_int (pe_at TProbeSender (by decide +kernel) (pv 0))) (nomark _))
          (pss_one (ps_expr (pe_mt MProbeSender__end_try (hr.mono (by decide)) (pv 0) (pa_cons (pv 1) (pa_cons (pe_callB (cr_all rfl) (by rfl) T.all (by decide +kernel) (pa_cons (pe_lc (own := [("channel", 4)]) (g := gName 4) rfl nd (pi_list (pe_at TProbeSender (by decide +kernel) (pv 0))) (blkOk_by (N := ["self", "now", "manner", "heard", "channel"]) (sc := defScope s_ProbeSender_offer) (by decide +kernel)) (fun _ _ _ _ _ => pg_name (i := 4) nd rfl (Or.inl rfl)) (fun _ _ _ _ _ => pts_nil) (fun _ _ _ _ _ => (pe_dget2 (hu_of hr) (pv 3) (pv 4) pe_bl ⟨by rfl, by rfl, by rfl, by rfl⟩))) pa_nil)) pa_nil)))))
          pss_nil)))
      (pss_one (ps_ret (pe_at TProbeSender (by decide +kernel) (pv 0))))), ?_⟩
    show (_ : TS) _ [some _, some _, some _, some _, none] _
    try dsimp only [cxOf, Cx.nox]
    obtain ⟨dx, vt, l, ts, vlo, vhi, vr, ha, hvt, hl, nl, hks, alo, ahi, art⟩ := id hs
    obtain ⟨n, hzn⟩ := hk
    obtain ⟨fa, fdx, t1, t2, vz, vl, vcc, vg, vmm, rfl, hfa, _, hz, hcp, hg⟩ := hf.flds
    have hla : l ≠ a := fun z => by rw [z, ha] at hl; cases hl
    have htl : ts.length = F0.rs.length := by rw [hks.1, List.length_map]
    have r5 := hb.r5
    have hoff : ∀ s' : St, offQ .pr F0 man lev came tot s'.rt = s'.rt := fun _ => rfl
    rw [hoff] at k
    walk_at "go"
    rename_i pe hpe
    have e2 : Ext [] H (upd H pe (.tup [])) := Ext.refl.new hpe
    refine eq_man (hm.x0 e2) tupS ?_
    have ha2 := e2 _ _ ha fun z => nomatch z
    have hfa2 := e2 _ _ hfa fun z => nomatch z
    have hs2 := hs.x0 e2
    have hf2 := hf.x0 e2
    have hl2 := e2 _ _ hl fun z => nomatch z
    have hhd2 := e2 _ _ hhd fun z => nomatch z
    have hks2 := hks.x0 e2
    have hh2 := hh.x0 e2
    have art2 := art.x0 e2
    have hvt2 := hvt.x0 e2
    have hcp2 := hcp.x0 e2
    clear alo ahi hz hg
    generalize upd H pe (.tup []) = H2 at *
    cases man with
    | none =>
      walk_at "run"
      refine ⟨a, dx, _, .ref z, vcc, .ref z, 0, now + 1, rfl, ha2, show 9 < 900 by decide, ?_⟩
      rw [pt_pf]
      have e7 : Ext [a] H2 (upd H2 a (.ins cP dx (PrFs (.ref fa) age vt (.ref l) (.ref z) vcc 0 (now + 1) (.ref z)))) := Ext.refl.at_ List.mem_cons_self
      have n2 := (no_ins ha2).1
      walk_at "run"
      have hsr : srch F0.c (zn F0.z) age now (none : Option (Rat × Rat)).isNone (F0.rs.all bit) st = ⟨0, F0.c, 0, now + 1, 0⟩ := rfl
      rw [hsr] at k
      exact k _ _ (e2.of0.trans e7) ⟨z, rfl, htz _⟩ ⟨dx, vt, l, ts, _, _, _, upd_same, hvt2.f e7 n2, e7 _ _ hl2 (fun z => hla (List.mem_singleton.mp z)), nl, hks2.f e7 n2, ⟨z, rfl, htz _⟩, hcp2.f e7 n2, ⟨z, rfl, htz _⟩⟩
    | some pr =>
      have hsr : srch F0.c (zn F0.z) age now (some pr).isNone (F0.rs.all bit) st = if now - st.bg < 2 * age then st else tryS F0.c (some n) now (F0.rs.all bit) st := by rw [hzn]; rfl
      rw [hsr] at k
      walk_at "run"
      refine r_I (.inl ⟨by decide, by decide⟩) ?_
      walk_at "run"
      refine r_dec (fun hge => ?_) (fun hlt => ?_)
      · have hnl : ¬ (now - st.bg < 2 * age) := by omega
        rw [if_neg hnl] at k
        walk_at "run"
        refine ⟨l, rfl, ⟨_, .inl (.inl hl2)⟩, fun D hD => ?_⟩
        refine r_lcL (xs := ts) (fun i H1 => H1 D = some (.lst (((F0.rs.map bit).take i).map V.bl)) ∧ Ext [] H2 H1) ⟨upd_same, Ext.refl.new hD⟩ ?_ ?_ ?_
        · rintro i H1 _ ⟨_, e⟩
          exact .inl (.inl (e _ _ hl2 fun z => nomatch z))
        · rintro i x H1 hx ⟨hacc, e1⟩
          obtain ⟨kk, hkk, t, rfl, ht⟩ := hks2.at_ hx
          rw [List.getElem?_map] at hkk
          obtain ⟨r, hr, rfl⟩ := Option.map_eq_some_iff.mp hkk
          have hrm := List.mem_of_getElem? hr
          have hhd1 := e1 _ _ hhd2 fun z => nomatch z
          have ht1 := e1 _ _ ht fun z => nomatch z
          have hi := (List.getElem?_eq_some_iff.mp hr).1
          walk_at "go"
          refine ⟨rfl, ?_⟩
          walk_at "go"
          refine ⟨hd, rfl, .inr ⟨_, .inl hhd1⟩, ?_⟩
          walk_at "go"
          refine ⟨valV kvs (bitK F0.n r), .inr ⟨_, bitK F0.n r, t, .inl hhd1, rfl, ht1, rfl⟩, ?_⟩
          have hv : (valV kvs (bitK F0.n r)).getD (.bl false) = .bl (bit r) := by
            rcases hh2.bt r hrm with ⟨h1, h2⟩ | h1
            · rw [h1, h2]; rfl
            · rw [h1]; rfl
          rw [hv]
          refine ⟨_, hacc, Nat.lt_of_le_of_lt (by rw [List.length_map, List.length_take, List.length_map]; omega : _ ≤ 5) (by decide), ?_, e1.own hD⟩
          rw [upd_same, List.take_add_one, List.getElem?_map, hr, List.map_append]
          rfl
        · rintro H1 ⟨hacc, e1⟩
          rw [htl, List.take_of_length_le (by rw [List.length_map]; exact Nat.le_refl _)] at hacc
          walk_at "run"
          refine r_all (.inl (.inl hacc)) ?_
          rw [show (F0.rs.map bit).all id = F0.rs.all bit by rw [List.all_map]; rfl]
          have hs3 := hs2.x0 e1
          walk_at "run"
          refine ⟨a, now, _, .ref fa, age, F0, tot, st, na, n, X, M, rfl, hs3, hf2.x0 e1, hne, hzn, hb.il, hb.ih, hb.X0, hb.X4, hb.M4, fun H4 e4 hs4 => ?_⟩
          obtain ⟨dx4, vt4, l4, ts4, vlo4, vhi4, vr4, ha4, hvt4, hl4, nl4, hks4, alo4, ahi4, art4⟩ := id hs4
          walk_at "run"
          exact k _ _ (e2.of0.trans (e1.of0.trans e4)) art4 hs4
      · have hlt' : now - st.bg < 2 * age := by omega
        rw [if_pos hlt'] at k
        walk_at "run"
        exact k _ _ e2.of0 art2 hs2
theorem k_mk {cF cS cL cE cW cP : Addr} {K : PySem.W.Frag} {H : Hp} {vf : V} {age : Int} {F : FlowD} {na x dx : Addr} {o : HO} {R : Hp → Prop} {E : XK} {c : Kd} (hf : FlowAt cF K H vf F) (hna : H na = some o) (r5 : F.rs.length ≤ 5) (nx : H x = none) (ndx : H dx = none) (nex : dx ≠ x)
    (k : ∀ H', Ext [] H H' → SndAt cS cL cE cW cP K H' na x vf age F 0 (St0 F.c) c → R H') : spSn1 cF cS cL cE cW cP K c [V.ref x, vf, .int age] (upd (upd H dx (.own x)) x (.ins (c.cls cS cL cE cW cP) dx [])) (fun v H2 => v = .non ∧ R H2) E := by
  have hx : upd H dx (.own x) x = none := by rw [upd_ne nex.symm]; exact nx
  have e : Ext [] H (upd (upd H dx (.own x)) x (.ins (c.cls cS cL cE cW cP) dx [])) := (Ext.refl.new ndx).new hx
  have hne : vf ≠ .ref x := fun z => by
    obtain ⟨fa, _, _, _, _, _, _, _, _, rfl, h, _⟩ := hf.flds
    cases z
    rw [nx] at h
    cases h
  have nna : na ≠ x := fun z => by rw [z, nx] at hna; cases hna
  refine ⟨x, dx, na, o, vf, age, F, rfl, upd_same, hf.x0 e, hne, e _ _ hna (fun z => nomatch z), nna, r5, fun H' e2 hs => ⟨rfl, k H' (fun b o' hb _ => ?_) hs⟩⟩
  have hbx : b ∉ [x] := fun z => by rw [List.mem_singleton.mp z, nx] at hb; cases hb
  exact e2 _ _ (e _ _ hb fun z => nomatch z) hbx
def spCopy (cF cS cL cE cW cP : Addr) (K : PySem.W.Frag) (c : Kd) : Sp := fun vs H Q _ => ∃ (a : Addr) (vf : V) (age : Int) (F : FlowD) (tot : Rat) (st : St) (na : Addr) (o : HO), vs = [.ref a] ∧ SndAt cS cL cE cW cP K H na a vf age F tot st c ∧ FlowAt cF K H vf F ∧ H na = some o ∧ F.rs.length ≤ 5 ∧
  ∀ b H', H b = none → Ext [] H H' → SndAt cS cL cE cW cP K H' na b vf age F tot st c → Q (.ref b) H'
theorem Ext.owned {a : Addr} {H H1 H2 : Hp} (hn : H a = none) (e : Ext [] H H1) (g : Ext [a] H1 H2) : Ext [] H H2 := fun b o hb _ => g _ _ (e _ _ hb fun z => nomatch z) fun z => by rw [List.mem_singleton.mp z, hn] at hb; cases hb
end
end Yk

set_option maxHeartbeats 16000000
namespace Yk
open PySem PySem.Spec PyProof.Rows L2

local macro_rules | `(tactic| walk_at "st") => `(tactic| first
  | with_reducible refine' r_tAt ?_
  | ((with_reducible refine' r_fld ?h1 ?h2 ?h3); (case h1 => first | assumption | exact upd_same); (case h2 => first | walk_at "lk" | rfl))
  | with_reducible refine' r_sAt ?_
  | ((with_reducible refine' r_putU ?h1 ?h2); (case h1 => (repeat refine putF_lt ?_); decide))
  | ((with_reducible refine' r_put ?h1 ?h2 ?h3); (case h1 => first | assumption | exact upd_same); (case h2 => (repeat refine putF_lt ?_); decide))
  | with_reducible refine' r_tMt ?_
  | ((with_reducible refine' r_met ?h1 ?h2 ?h3); (case h1 => first | assumption | exact upd_same); (case h2 => first | walk_at "lk" | rfl))
  | with_reducible refine' r_tCr ?_
  | with_reducible refine' r_tCrK ?_
  | with_reducible refine' r_chain ?_)
local macro_rules | `(tactic| walk_at "st") => `(tactic| first
  | with_reducible refine' r_dget ?_
  | with_reducible refine' r_dc ?_
  | with_reducible refine' r_iVals ?_
  | with_reducible refine' r_dnotin ?_
  | with_reducible refine' r_din ?_
  | with_reducible refine' r_iItems ?_
  | with_reducible refine' r_iKeysT ?_
  | with_reducible refine' r_tget1 ?_
  | with_reducible refine' r_tget2 ?_
  | with_reducible refine' r_dput ?_
  | with_reducible refine' r_tPr ?_
  | ((with_reducible refine' r_prp2 ?h1 ?h2); (case h1 => first | assumption | exact upd_same))
  | with_reducible refine' r_par3 ?_
  | ((with_reducible refine' r_dnT ?_); (intro np hnp))
  | ((with_reducible refine' r_dnK ?_); (intro np hnp)))
local macro_rules | `(tactic| walk_at "st") => `(tactic| first
  | with_reducible refine' r_tAtU ?_
  | ((with_reducible refine' r_fldU ?h0 ?h1 ?h2 ?h3); (case h1 => first | assumption | exact upd_same); (case h0 => first | assumption | walk_at "mem"); (case h2 => first | walk_at "lk" | rfl))
  | with_reducible refine' r_sAtU ?_
  | ((with_reducible refine' r_putUV ?h0 ?h2 ?h3); (case h0 => first | assumption | walk_at "mem"); (case h2 => (repeat refine putF_lt ?_); decide))
  | ((with_reducible refine' r_putUU ?h0 ?h1 ?h2 ?h3); (case h1 => first | assumption | exact upd_same); (case h0 => first | assumption | walk_at "mem"); (case h2 => (repeat refine putF_lt ?_); decide))
  | with_reducible refine' r_tMtU ?_
  | ((with_reducible refine' r_metU ?h0 ?h1 ?h2 ?h3); (case h1 => first | assumption | exact upd_same); (case h0 => first | assumption | walk_at "mem"); (case h2 => first | walk_at "lk" | rfl)))
local macro_rules | `(tactic| walk_at "mem") => `(tactic| (simp only [List.mem_cons, Prod.mk.injEq, List.not_mem_nil, or_false, true_and, and_true, true_or, or_true, reduceCtorEq, and_false, false_or]))
/-! Copies of senders; the sender for a flow; classes. -/
local macro_rules | `(tactic| walk_at "lk") => `(tactic| first | assumption | with_reducible exact lk_Flow_kind | with_reducible exact sx_force | with_reducible exact sp_force | with_reducible exact sp_low | with_reducible exact sp_high | with_reducible exact sp_done | with_reducible exact sp_begun | with_reducible exact sp_rate | with_reducible exact sp_flow | with_reducible exact sp_age | with_reducible exact sp_total | with_reducible exact sx_flow | with_reducible exact sx_age | with_reducible exact sx_total | with_reducible exact sk_flow | with_reducible exact sk_age | with_reducible exact sk_total)
theorem FlowAt.bg {cF : Addr} {K : PySem.W.Frag} {H H1 : Hp} {b : Bag} {v : V} {F : FlowD} (h : FlowAt cF K H v F) (hb : BagAt K H b) (e : Ext [b.a] H H1) : FlowAt cF K H1 v F := by
  obtain ⟨a, dy, t1, t2, xs, vz, vl, vc, vg, vm, rfl, h, h1, h2, h3, h4, h5, h6, h7, h8⟩ := h
  have hs : ∀ a ∈ [b.a], ∃ l, H a = some (.lst l) := fun a ha => by rw [List.mem_singleton.mp ha]; exact hb.lst
  refine ⟨a, dy, t1, t2, xs, vz, vl, vc, vg, vm, rfl, e _ _ h fun z => ?_, tupX e h1 hs, tupX e h2 hs, h3.b hb e, h4.b hb e, h5.b hb e, h6.b hb e, h7.b hb e, ManIs.x e h8 hs⟩
  obtain ⟨l, q⟩ := hs _ z
  rw [h] at q
  cases q
theorem FlowAt.f {cF : Addr} {K : PySem.W.Frag} {S : List Addr} {H H1 : Hp} {fa : Addr} {F : FlowD} (h : FlowAt cF K H (.ref fa) F) (e : Ext S H H1) (ns : NoTup H S) (hn : fa ∉ S) : FlowAt cF K H1 (.ref fa) F := by
  obtain ⟨a, dy, t1, t2, xs, vz, vl, vc, vg, vm, ea, h, h1, h2, h3, h4, h5, h6, h7, h8⟩ := h
  cases ea
  exact ⟨fa, dy, t1, t2, xs, vz, vl, vc, vg, vm, rfl, e _ _ h hn, tupF e h1 ns, tupF e h2 ns, AmsF e ns h3, h4.f e ns, h5.f e ns, h6.f e ns, h7.f e ns, h8.f e ns⟩
theorem k_with {cS cL cE cW cP : Addr} {K : PySem.W.Frag} {H H1 : Hp} {na x : Addr} {vf vt : V} {age : Int} {F : FlowD} {q0 tot : Rat} {st : St} {c : Kd} {Q : VK} {E : XK} (hx : H x = none) (e : Ext [] H H1) (hs : SndAt cS cL cE cW cP K H1 na x vf age F q0 st c) (av : Am K H1 vt tot)
    (k : ∀ b H', H b = none → Ext [] H H' → SndAt cS cL cE cW cP K H' na b vf age F tot st c → Q (.ref b) H') : spWith (S5 cS cL cE cW cP) [.ref x, vt] H1 Q E := by
  obtain ⟨dx, fs, vt0, h1, l9, _⟩ := hs.ins
  have e2 : Ext [x] H1 (upd H1 x (.ins (c.cls cS cL cE cW cP) dx (putF "total" vt fs))) := Ext.refl.at_ List.mem_cons_self
  exact ⟨x, _, c, dx, fs, vt, rfl, kd_mem c, h1, l9, k x _ hx (Ext.owned hx e e2) (hs.put h1 e2 upd_same (av.f e2 (no_ins h1).1))⟩
section
variable {P : Program} {w : World} {K : PySem.W.Frag} {mg : Str → Option Value} {base : Heap} {f : Addr} {fd : FuncData}
abbrev s_Sender_copy : Stmt := inClass (top 28) 4
theorem c_Sender_copy : FnScope ["self"] ["self"] (defScope s_Sender_copy) := ⟨rfl, rfl, rfl, by decide +kernel, rfl, by decide +kernel, by decide +kernel⟩
theorem f_Sender_copy (F : FunD K "copy" "Sender.copy" (defArgs s_Sender_copy) (defBody s_Sender_copy) (defScope s_Sender_copy) [] [] f fd) {cF cS cL cE cW cP : Addr} (TSender : CtU K mg "Sender" cS (S5 cS cL cE cW cP) ["flow", "age", "total"]) (RSender : Cr P w K mg base 1 "Sender" cS (spSn0 (S5 cS cL cE cW cP) K)) (F_with_total : Fn P w K mg base 1 "_with_total" (spWith (S5 cS cL cE cW cP))) : FnOk P w K mg base CX0 5 f fd ["self"] (spCopy cF cS cL cE cW cP K .no) := by
  refine ok_meth F c_Sender_copy (fun vs H Q E h => ?_) (fun cdv A outer s H vs Q E hr h => ?_)
  · obtain ⟨a, vf, age, F, tot, st, na, o, rfl, _⟩ := h
    rfl
  · obtain ⟨a, vf, age, F0, tot, st, na, o, rfl, hs, hf, hna, r5, k⟩ := h
    have nd := c_Sender_copy.nd
    refine ⟨_, (pss_one (ps_ret (pe_fn F_with_total (hr.mono (by decide)) (pa_cons (pe_cr RSender (hr.mono (by decide)) (pa_cons (pe_atU TSender (by decide +kernel) (pv 0)) (pa_cons (pe_atU TSender (by decide +kernel) (pv 0)) pa_nil))) (pa_cons (pe_atU TSender (by decide +kernel) (pv 0)) pa_nil))))), ?_⟩
    show (_ : TS) _ [some _] _
    try dsimp only [cxOf, Cx.nox]
    obtain ⟨dx, vt, ha, hvt⟩ := id hs
    have hC : (cS, Kd.no) ∈ S5 cS cL cE cW cP := by simp
    walk_at "go"
    intro x dxx nx ndx nex
    have hx : upd H dxx (.own x) x = none := by rw [upd_ne nex.symm]; exact nx
    have e : Ext [] H (upd (upd H dxx (.own x)) x (.ins cS dxx [])) := (Ext.refl.new ndx).new hx
    refine ⟨x, dxx, cS, .no, vf, age, rfl, hC, upd_same, fun H2 vt2 e2 h2 a2 => ⟨rfl, ?_⟩⟩
    have E2 : Ext [] H H2 := fun b o' hb _ => e2 _ _ (e _ _ hb fun z => nomatch z) fun z => by rw [List.mem_singleton.mp z, nx] at hb; cases hb
    have ha2 := E2 _ _ ha fun z => nomatch z
    walk_at "go"
    exact k_with (c := .no) nx E2 (st := st) ⟨dxx, vt2, h2, a2⟩ (hvt.x0 E2) k
abbrev s_LevelSender_copy : Stmt := inClass (top 29) 2
theorem c_LevelSender_copy : FnScope ["self"] ["self"] (defScope s_LevelSender_copy) := ⟨rfl, rfl, rfl, by decide +kernel, rfl, by decide +kernel, by decide +kernel⟩
theorem f_LevelSender_copy (F : FunD K "copy" "LevelSender.copy" (defArgs s_LevelSender_copy) (defBody s_LevelSender_copy) (defScope s_LevelSender_copy) [] [] f fd) {cF cS cL cE cW cP : Addr} (TLevelSender : Ct K mg "LevelSender" cL ["flow", "age", "total", "_levels"]) (RLevelSender : Cr P w K mg base 2 "LevelSender" cL (spSn1 cF cS cL cE cW cP K .lv)) (F_with_total : Fn P w K mg base 1 "_with_total" (spWith (S5 cS cL cE cW cP))) : FnOk P w K mg base CX0 5 f fd ["self"] (spCopy cF cS cL cE cW cP K .lv) := by
  refine ok_meth F c_LevelSender_copy (fun vs H Q E h => ?_) (fun cdv A outer s H vs Q E hr h => ?_)
  · obtain ⟨a, vf, age, F, tot, st, na, o, rfl, _⟩ := h
    rfl
  · obtain ⟨a, vf, age, F0, tot, st, na, o, rfl, hs, hf, hna, r5, k⟩ := h
    have nd := c_LevelSender_copy.nd
    refine ⟨_, (pss_one (ps_ret (pe_fn F_with_total (hr.mono (by decide)) (pa_cons (pe_cr RLevelSender (hr.mono (by decide)) (pa_cons (pe_at TLevelSender (by decide +kernel) (pv 0)) (pa_cons (pe_at TLevelSender (by decide +kernel) (pv 0)) pa_nil))) (pa_cons (pe_at TLevelSender (by decide +kernel) (pv 0)) pa_nil))))), ?_⟩
    show (_ : TS) _ [some _] _
    try dsimp only [cxOf, Cx.nox]
    obtain ⟨dx, vt, l, ts, ha, hvt, _⟩ := id hs
    walk_at "go"
    intro x dxx nx ndx nex
    refine k_mk (c := .lv) hf hna r5 nx ndx nex fun H2 E2 hs2 => ?_
    have ha2 := E2 _ _ ha fun z => nomatch z
    walk_at "go"
    exact k_with (c := .lv) (st := st) nx E2 hs2 (hvt.x0 E2) k
abbrev s_EagerSender_copy : Stmt := inClass (top 30) 2
theorem c_EagerSender_copy : FnScope ["self"] ["self"] (defScope s_EagerSender_copy) := ⟨rfl, rfl, rfl, by decide +kernel, rfl, by decide +kernel, by decide +kernel⟩
theorem f_EagerSender_copy (F : FunD K "copy" "EagerSender.copy" (defArgs s_EagerSender_copy) (defBody s_EagerSender_copy) (defScope s_EagerSender_copy) [] [] f fd) {cF cS cL cE cW cP : Addr} (TEagerSender : Ct K mg "EagerSender" cE ["flow", "age", "total", "_door"]) (REagerSender : Cr P w K mg base 2 "EagerSender" cE (spSn1 cF cS cL cE cW cP K .eg)) (F_with_total : Fn P w K mg base 1 "_with_total" (spWith (S5 cS cL cE cW cP))) : FnOk P w K mg base CX0 5 f fd ["self"] (spCopy cF cS cL cE cW cP K .eg) := by
  refine ok_meth F c_EagerSender_copy (fun vs H Q E h => ?_) (fun cdv A outer s H vs Q E hr h => ?_)
  · obtain ⟨a, vf, age, F, tot, st, na, o, rfl, _⟩ := h
    rfl
  · obtain ⟨a, vf, age, F0, tot, st, na, o, rfl, hs, hf, hna, r5, k⟩ := h
    have nd := c_EagerSender_copy.nd
    refine ⟨_, (pss_one (ps_ret (pe_fn F_with_total (hr.mono (by decide)) (pa_cons (pe_cr REagerSender (hr.mono (by decide)) (pa_cons (pe_at TEagerSender (by decide +kernel) (pv 0)) (pa_cons (pe_at TEagerSender (by decide +kernel) (pv 0)) pa_nil))) (pa_cons (pe_at TEagerSender (by decide +kernel) (pv 0)) pa_nil))))), ?_⟩
    show (_ : TS) _ [some _] _
    try dsimp only [cxOf, Cx.nox]
    obtain ⟨dx, vt, vd, ha, hvt, _⟩ := id hs
    walk_at "go"
    intro x dxx nx ndx nex
    refine k_mk (c := .eg) hf hna r5 nx ndx nex fun H2 E2 hs2 => ?_
    have ha2 := E2 _ _ ha fun z => nomatch z
    walk_at "go"
    exact k_with (c := .eg) (st := st) nx E2 hs2 (hvt.x0 E2) k
abbrev s_WindowSender_copy : Stmt := inClass (top 31) 2
theorem c_WindowSender_copy : FnScope ["self"] ["self"] (defScope s_WindowSender_copy) := ⟨rfl, rfl, rfl, by decide +kernel, rfl, by decide +kernel, by decide +kernel⟩
theorem f_WindowSender_copy (F : FunD K "copy" "WindowSender.copy" (defArgs s_WindowSender_copy) (defBody s_WindowSender_copy) (defScope s_WindowSender_copy) [] [] f fd) {cF cS cL cE cW cP : Addr} (TWindowSender : Ct K mg "WindowSender" cW ["flow", "age", "total", "_came"]) (RWindowSender : Cr P w K mg base 2 "WindowSender" cW (spSn1 cF cS cL cE cW cP K .wi)) (F_with_total : Fn P w K mg base 1 "_with_total" (spWith (S5 cS cL cE cW cP))) : FnOk P w K mg base CX0 5 f fd ["self"] (spCopy cF cS cL cE cW cP K .wi) := by
  refine ok_meth F c_WindowSender_copy (fun vs H Q E h => ?_) (fun cdv A outer s H vs Q E hr h => ?_)
  · obtain ⟨a, vf, age, F, tot, st, na, o, rfl, _⟩ := h
    rfl
  · obtain ⟨a, vf, age, F0, tot, st, na, o, rfl, hs, hf, hna, r5, k⟩ := h
    have nd := c_WindowSender_copy.nd
    refine ⟨_, (pss_one (ps_ret (pe_fn F_with_total (hr.mono (by decide)) (pa_cons (pe_cr RWindowSender (hr.mono (by decide)) (pa_cons (pe_at TWindowSender (by decide +kernel) (pv 0)) (pa_cons (pe_at TWindowSender (by decide +kernel) (pv 0)) pa_nil))) (pa_cons (pe_at TWindowSender (by decide +kernel) (pv 0)) pa_nil))))), ?_⟩
    show (_ : TS) _ [some _] _
    try dsimp only [cxOf, Cx.nox]
    obtain ⟨dx, vt, t, ha, hvt, _⟩ := id hs
    walk_at "go"
    intro x dxx nx ndx nex
    refine k_mk (c := .wi) hf hna r5 nx ndx nex fun H2 E2 hs2 => ?_
    have ha2 := E2 _ _ ha fun z => nomatch z
    walk_at "go"
    exact k_with (c := .wi) (st := st) nx E2 hs2 (hvt.x0 E2) k
abbrev s_ProbeSender_copy : Stmt := inClass (top 32) 3
theorem c_ProbeSender_copy : FnScope ["self", "other"] ["self"] (defScope s_ProbeSender_copy) := ⟨rfl, rfl, rfl, by decide +kernel, rfl, by decide +kernel, by decide +kernel⟩
theorem f_ProbeSender_copy (F : FunD K "copy" "ProbeSender.copy" (defArgs s_ProbeSender_copy) (defBody s_ProbeSender_copy) (defScope s_ProbeSender_copy) [] [] f fd) {cF cS cL cE cW cP : Addr} (TProbeSender : Ct K mg "ProbeSender" cP ["flow", "age", "total", "_bits", "_low", "_high", "_done", "_begun", "_rate"]) (RProbeSender : Cr P w K mg base 2 "ProbeSender" cP (spSn1 cF cS cL cE cW cP K .pr)) (F_with_total : Fn P w K mg base 1 "_with_total" (spWith (S5 cS cL cE cW cP))) (MProbeSender_force : Mt P w K mg base 1 cP "force" (spForce cP)) : FnOk P w K mg base CX0 5 f fd ["self"] (spCopy cF cS cL cE cW cP K .pr) := by
  refine ok_meth F c_ProbeSender_copy (fun vs H Q E h => ?_) (fun cdv A outer s H vs Q E hr h => ?_)
  · obtain ⟨a, vf, age, F, tot, st, na, o, rfl, _⟩ := h
    rfl
  · obtain ⟨a, vf, age, F0, tot, st, na, o, rfl, hs, hf, hna, r5, k⟩ := h
    have nd := c_ProbeSender_copy.nd
    refine ⟨_, (pss_cons (ps_set (i := 1) nd rfl (by first | exact Or.inl rfl | exact Or.inr rfl) (pe_cr RProbeSender (hr.mono (by decide)) (pa_cons (pe_at TProbeSender (by decide +kernel) (pv 0)) (pa_cons (pe_at TProbeSender (by decide +kernel) (pv 0)) pa_nil))))
      (pss_cons (ps_expr (pe_mt MProbeSender_force (hr.mono (by decide)) (pv 1) (pa_cons (pe_at TProbeSender (by decide +kernel) (pv 0)) (pa_cons (pe_at TProbeSender (by decide +kernel) (pv 0)) (pa_cons (pe_at TProbeSender (by decide +kernel) (pv 0)) (pa_cons (pe_at TProbeSender (by decide +kernel) (pv 0)) (pa_cons (pe_at TProbeSender (by decide +kernel) (pv 0)) pa_nil)))))))
      (pss_one (ps_ret (pe_fn F_with_total (hr.mono (by decide)) (pa_cons (pv 1) (pa_cons (pe_at TProbeSender (by decide +kernel) (pv 0)) pa_nil))))))), ?_⟩
    show (_ : TS) _ [some _, none] _
    try dsimp only [cxOf, Cx.nox]
    obtain ⟨dx, vt, l, ts, vlo, vhi, vr, ha, hvt, hl, nl, hks, alo, ahi, art⟩ := id hs
    walk_at "go"
    intro x dxx nx ndx nex
    refine k_mk (c := .pr) hf hna r5 nx ndx nex fun H2 E2 hs2 => ?_
    obtain ⟨dx2, vt2, l2, ts2, vlo2, vhi2, vr2, ha2, hvt2, hl2, nl2, hks2, alo2, ahi2, art2⟩ := id hs2
    have hb2 := E2 _ _ ha fun z => nomatch z
    have hxa : x ≠ a := fun z => by rw [z, ha] at nx; cases nx
    walk_at "go"
    refine ⟨x, dx2, _, vlo, vhi, vr, st.dn, st.bg, rfl, ha2, show 9 < 900 by decide, ?_⟩
    rw [pt_pf]
    have e3 : Ext [x] H2 (upd H2 x (.ins cP dx2 (PrFs vf age vt2 (.ref l2) vlo vhi st.dn st.bg vr))) := Ext.refl.at_ List.mem_cons_self
    have n3 := (no_ins ha2).1
    have hb3 := e3 _ _ hb2 fun z => hxa (List.mem_singleton.mp z).symm
    have hl2x : l2 ≠ x := fun z => by rw [z, ha2] at hl2; cases hl2
    have E3 := Ext.owned nx E2 e3
    have hs3 : SndAt cS cL cE cW cP K (upd H2 x (.ins cP dx2 (PrFs vf age vt2 (.ref l2) vlo vhi st.dn st.bg vr))) na x vf age F0 0 st .pr :=
      ⟨dx2, vt2, l2, ts2, vlo, vhi, vr, upd_same, hvt2.f e3 n3, e3 _ _ hl2 (fun z => hl2x (List.mem_singleton.mp z)), nl2, hks2.f e3 n3, alo.x0 E3, ahi.x0 E3, art.x0 E3⟩
    walk_at "go"
    exact k_with (c := .pr) (st := st) nx E3 hs3 (hvt.x0 E3) k
/-- the kind of a flow -/
def KdIs (c : Kd) (d : Str) : Prop := match c with
  | .no => False
  | .lv => d = "level"
  | .eg => d = "eager"
  | .wi => d = "window"
  | .pr => d = "probe"
def spMkSn (cF cS cL cE cW cP : Addr) (K : PySem.W.Frag) : Sp := fun vs H Q _ => ∃ (vf : V) (age : Int) (F : FlowD) (na : Addr) (o : HO) (c : Kd), vs = [vf, .int age] ∧ FlowAt cF K H vf F ∧ H na = some o ∧ F.rs.length ≤ 5 ∧ KdIs c F.d ∧
  ∀ a H', H a = none → Ext [] H H' → SndAt cS cL cE cW cP K H' na a vf age F 0 (St0 F.c) c → Q (.ref a) H'
abbrev s_sender_of : Stmt := top 33
theorem c_sender_of : FnScope ["flow", "age"] ["flow", "age"] (defScope s_sender_of) := ⟨rfl, rfl, rfl, by decide +kernel, rfl, by decide +kernel, by decide +kernel⟩
theorem f_sender_of (F : FunD K "sender_of" "sender_of" (defArgs s_sender_of) (defBody s_sender_of) (defScope s_sender_of) [] [] f fd) (hm : mg "sender_of" = some (.ref f)) {cF cS cL cE cW cP : Addr} (TFlow : Ct K mg "Flow" cF ["name", "route", "buffers", "kind", "size", "weight", "least", "cap", "door", "way", "manner", "strange", "last"]) (RLevelSender : Cr P w K mg base 2 "LevelSender" cL (spSn1 cF cS cL cE cW cP K .lv)) (REagerSender : Cr P w K mg base 2 "EagerSender" cE (spSn1 cF cS cL cE cW cP K .eg)) (RWindowSender : Cr P w K mg base 2 "WindowSender" cW (spSn1 cF cS cL cE cW cP K .wi)) (RProbeSender : Cr P w K mg base 2 "ProbeSender" cP (spSn1 cF cS cL cE cW cP K .pr)) : Fn P w K mg base 4 "sender_of" (spMkSn cF cS cL cE cW cP K) := by
  refine fn_def F hm c_sender_of (fun vs H Q E h => ?_) (fun _ _ _ _ _ _ us hl => match us, hl with | [_, _], _ => rfl) (fun cdv A outer s H vs Q E hr h => ?_)
  · obtain ⟨vf, age, F, na, o, c, rfl, _⟩ := h
    rfl
  · obtain ⟨vf, age, F0, na, o, c, rfl, hf, hna, r5, hk, k⟩ := h
    have nd := c_sender_of.nd
    refine ⟨_, (pss_cons (ps_if (pt_cmpR op_eq (pe_at TFlow (by decide +kernel) (pv 0)) pe_str (nomark _))
        (pss_one (ps_ret (pe_cr RLevelSender (hr.mono (by decide)) (pa_cons (pv 0) (pa_cons (pv 1) pa_nil)))))
        pss_nil)
      (pss_cons (ps_if (pt_cmpR op_eq (pe_at TFlow (by decide +kernel) (pv 0)) pe_str (nomark _))
        (pss_one (ps_ret (pe_cr REagerSender (hr.mono (by decide)) (pa_cons (pv 0) (pa_cons (pv 1) pa_nil)))))
        pss_nil)
      (pss_cons (ps_if (pt_cmpR op_eq (pe_at TFlow (by decide +kernel) (pv 0)) pe_str (nomark _))
        (pss_one (ps_ret (pe_cr RWindowSender (hr.mono (by decide)) (pa_cons (pv 0) (pa_cons (pv 1) pa_nil)))))
        pss_nil)
      (pss_one (ps_ret (pe_cr RProbeSender (hr.mono (by decide)) (pa_cons (pv 0) (pa_cons (pv 1) pa_nil)))))))), ?_⟩
    show (_ : TS) _ [some _, some _] _
    try dsimp only [cxOf, Cx.nox]
    obtain ⟨fa, fdx, t1, t2, vz, vl, vcc, vg, vmm, rfl, hfa, _⟩ := hf.flds
    walk_at "go"
    cases c with
    | no => exact absurd hk id
    | lv =>
      rw [show F0.d = "level" from hk]
      refine r_true (decide_eq_true rfl) ?_
      walk_at "go"
      intro x dxx nx ndx nex
      exact k_mk (c := .lv) hf hna r5 nx ndx nex fun H2 E2 hs2 => k x H2 nx E2 hs2
    | eg =>
      have hd : F0.d = "eager" := hk
      rw [hd]
      refine r_false (decide_eq_false (by decide +kernel)) ?_
      walk_at "go"
      rw [hd]
      refine r_true (decide_eq_true rfl) ?_
      walk_at "go"
      intro x dxx nx ndx nex
      exact k_mk (c := .eg) hf hna r5 nx ndx nex fun H2 E2 hs2 => k x H2 nx E2 hs2
    | wi =>
      have hd : F0.d = "window" := hk
      rw [hd]
      refine r_false (decide_eq_false (by decide +kernel)) ?_
      walk_at "go"
      rw [hd]
      refine r_false (decide_eq_false (by decide +kernel)) ?_
      walk_at "go"
      rw [hd]
      refine r_true (decide_eq_true rfl) ?_
      walk_at "go"
      intro x dxx nx ndx nex
      exact k_mk (c := .wi) hf hna r5 nx ndx nex fun H2 E2 hs2 => k x H2 nx E2 hs2
    | pr =>
      have hd : F0.d = "probe" := hk
      rw [hd]
      refine r_false (decide_eq_false (by decide +kernel)) ?_
      walk_at "go"
      rw [hd]
      refine r_false (decide_eq_false (by decide +kernel)) ?_
      walk_at "go"
      rw [hd]
      refine r_false (decide_eq_false (by decide +kernel)) ?_
      walk_at "go"
      intro x dxx nx ndx nex
      exact k_mk (c := .pr) hf hna r5 nx ndx nex fun H2 E2 hs2 => k x H2 nx E2 hs2
def spNew (cF cS cL cE cW cP : Addr) (K : PySem.W.Frag) : Sp := fun vs H Q _ => ∃ (b : Bag) (vf : V) (d : Addr) (kvs : List (Key × V)) (age : Int) (F : FlowD) (c : Kd), vs = [.ref b.a, vf, .ref d, .int age] ∧ BagAt K H b ∧ FlowAt cF K H vf F ∧ H d = some (.dK kvs) ∧ valV kvs (.inr "kind") = some (.str F.d) ∧ F.rs.length ≤ 5 ∧ KdIs c F.d ∧
  ∀ a H', H a = none → Ext [b.a] H H' → BagAt K H' b → SndAt cS cL cE cW cP K H' b.a a vf age F 0 (St0 F.c) c → Q (.ref a) H'
abbrev s_law_new : Stmt := top 72
theorem c_law_new : FnScope ["_law_bag_here", "_law_flow_told", "_law_row", "_law_age_of"] ["_law_bag_here", "_law_flow_told", "_law_row", "_law_age_of"] (defScope s_law_new) := ⟨rfl, rfl, rfl, by decide +kernel, rfl, by decide +kernel, by decide +kernel⟩
theorem f_law_new (F : FunD K "_law_new" "_law_new" (defArgs s_law_new) (defBody s_law_new) (defScope s_law_new) [] [] f fd) (hm : mg "_law_new" = some (.ref f)) {cF cS cL cE cW cP : Addr} (F_law_draw : Fn P w K mg base 1 "_law_draw" (spDraw K)) (Fsender_of : Fn P w K mg base 4 "sender_of" (spMkSn cF cS cL cE cW cP K)) (RLevelSender : Cr P w K mg base 2 "LevelSender" cL (spSn1 cF cS cL cE cW cP K .lv)) (REagerSender : Cr P w K mg base 2 "EagerSender" cE (spSn1 cF cS cL cE cW cP K .eg)) (RWindowSender : Cr P w K mg base 2 "WindowSender" cW (spSn1 cF cS cL cE cW cP K .wi)) (RProbeSender : Cr P w K mg base 2 "ProbeSender" cP (spSn1 cF cS cL cE cW cP K .pr)) : Fn P w K mg base 5 "_law_new" (spNew cF cS cL cE cW cP K) := by
  refine fn_def F hm c_law_new (fun vs H Q E h => ?_) (fun _ _ _ _ _ _ us hl => match us, hl with | [_, _, _, _], _ => rfl) (fun cdv A outer s H vs Q E hr h => ?_)
  · obtain ⟨b, vf, d, kvs, age, F, c, rfl, _⟩ := h
    rfl
  · obtain ⟨b, vf, d, kvs, age, F0, c, rfl, hb, hf, hd, lk, r5, hk, k⟩ := h
    have nd := c_law_new.nd
    refine ⟨_, (pss_cons (ps_if (pt_cmpR op_eq (pe_fn F_law_draw (hr.mono (by decide)) (pa_cons (pv 0) (pa_cons pe_int pa_nil))) pe_int (nomark _))
        (pss_one (ps_ret (pe_fn Fsender_of (hr.mono (by decide)) (pa_cons (pv 1) (pa_cons (pv 3) pa_nil)))))
        pss_nil)
      (pss_cons (ps_if (pt_cmpR op_eq (pe_dget (hu_of hr) (pv 2) pe_str (fun _ _ => rfl)) pe_str (nomark _))
        (pss_one (ps_ret (pe_cr RLevelSender (hr.mono (by decide)) (pa_cons (pv 1) (pa_cons (pv 3) pa_nil)))))
        pss_nil)
      (pss_cons (ps_if (pt_cmpR op_eq (pe_dget (hu_of hr) (pv 2) pe_str (fun _ _ => rfl)) pe_str (nomark _))
        (pss_one (ps_ret (pe_cr REagerSender (hr.mono (by decide)) (pa_cons (pv 1) (pa_cons (pv 3) pa_nil)))))
        pss_nil)
      (pss_one (ps_ret (pe_ifExp (pt_cmpR op_eq (pe_dget (hu_of hr) (pv 2) pe_str (fun _ _ => rfl)) pe_str (nomark _)) (pe_cr RWindowSender (hr.mono (by decide)) (pa_cons (pv 1) (pa_cons (pv 3) pa_nil))) (pe_cr RProbeSender (hr.mono (by decide)) (pa_cons (pv 1) (pa_cons (pv 3) pa_nil))))))))), ?_⟩
    show (_ : TS) _ [some _, some _, some _, some _] _
    try dsimp only [cxOf, Cx.nox]
    have dne := bag_ne_dk hb hd
    walk_at "go"
    refine k_draw hb (by omega) (by decide) fun y H1 y0 y1 b1 n1 => ?_
    have hf1 := hf.bg hb n1
    have hd1 : H1 d = some (.dK kvs) := n1 _ _ hd fun z => dne (List.mem_singleton.mp z)
    obtain ⟨lb, hlb⟩ := b1.lst
    have fre : ∀ {x : Addr}, H1 x = none → H x = none := fun h => n1.freeS h fun a ha => by rw [List.mem_singleton.mp ha, hlb]; simp
    have k1 : ∀ a H', H1 a = none → Ext [] H1 H' → SndAt cS cL cE cW cP K H' b.a a vf age F0 0 (St0 F0.c) c → Q (.ref a) H' := fun a H' h e hs => k a H' (fre h) (n1.trans e.of0) (b1.x0 e) hs
    walk_at "go"
    refine r_dec (fun _ => ?_) (fun _ => ?_)
    · walk_at "go"
      exact ⟨vf, age, F0, b.a, _, c, rfl, hf1, hlb, r5, hk, k1⟩
    · walk_at "go"
      refine r_getS hd1 lk ?_
      walk_at "go"
      cases c with
      | no => exact absurd hk id
      | lv =>
        rw [show F0.d = "level" from hk]
        refine r_true (decide_eq_true rfl) ?_
        walk_at "go"
        intro x dxx nx ndx nex
        exact k_mk (c := .lv) hf1 hlb r5 nx ndx nex fun H2 E2 hs2 => k1 x H2 nx E2 hs2
      | eg =>
        have hd' : F0.d = "eager" := hk
        rw [hd']
        refine r_false (decide_eq_false (by decide +kernel)) ?_
        walk_at "go"
        refine r_getS hd1 lk ?_
        walk_at "go"
        rw [hd']
        refine r_true (decide_eq_true rfl) ?_
        walk_at "go"
        intro x dxx nx ndx nex
        exact k_mk (c := .eg) hf1 hlb r5 nx ndx nex fun H2 E2 hs2 => k1 x H2 nx E2 hs2
      | wi =>
        have hd' : F0.d = "window" := hk
        rw [hd']
        refine r_false (decide_eq_false (by decide +kernel)) ?_
        walk_at "go"
        refine r_getS hd1 lk ?_
        walk_at "go"
        rw [hd']
        refine r_false (decide_eq_false (by decide +kernel)) ?_
        walk_at "go"
        refine r_getS hd1 lk ?_
        walk_at "go"
        rw [hd']
        refine r_true (decide_eq_true rfl) ?_
        walk_at "go"
        intro x dxx nx ndx nex
        exact k_mk (c := .wi) hf1 hlb r5 nx ndx nex fun H2 E2 hs2 => k1 x H2 nx E2 hs2
      | pr =>
        have hd' : F0.d = "probe" := hk
        rw [hd']
        refine r_false (decide_eq_false (by decide +kernel)) ?_
        walk_at "go"
        refine r_getS hd1 lk ?_
        walk_at "go"
        rw [hd']
        refine r_false (decide_eq_false (by decide +kernel)) ?_
        walk_at "go"
        refine r_getS hd1 lk ?_
        walk_at "go"
        rw [hd']
        refine r_false (decide_eq_false (by decide +kernel)) ?_
        walk_at "go"
        intro x dxx nx ndx nex
        exact k_mk (c := .pr) hf1 hlb r5 nx ndx nex fun H2 E2 hs2 => k1 x H2 nx E2 hs2
end
end Yk

set_option maxHeartbeats 16000000
namespace Yk
open PySem PySem.Spec PyProof.Rows L2

local macro_rules | `(tactic| walk_at "st") => `(tactic| first
  | with_reducible refine' r_tAt ?_
  | ((with_reducible refine' r_fld ?h1 ?h2 ?h3); (case h1 => first | assumption | exact upd_same); (case h2 => first | walk_at "lk" | rfl))
  | with_reducible refine' r_sAt ?_
  | ((with_reducible refine' r_putU ?h1 ?h2); (case h1 => (repeat refine putF_lt ?_); decide))
  | ((with_reducible refine' r_put ?h1 ?h2 ?h3); (case h1 => first | assumption | exact upd_same); (case h2 => (repeat refine putF_lt ?_); decide))
  | with_reducible refine' r_tMt ?_
  | ((with_reducible refine' r_met ?h1 ?h2 ?h3); (case h1 => first | assumption | exact upd_same); (case h2 => first | walk_at "lk" | rfl))
  | with_reducible refine' r_tCr ?_
  | with_reducible refine' r_tCrK ?_
  | with_reducible refine' r_chain ?_)
local macro_rules | `(tactic| walk_at "st") => `(tactic| first
  | with_reducible refine' r_dget ?_
  | with_reducible refine' r_dc ?_
  | with_reducible refine' r_iVals ?_
  | with_reducible refine' r_dnotin ?_
  | with_reducible refine' r_din ?_
  | with_reducible refine' r_iItems ?_
  | with_reducible refine' r_iKeysT ?_
  | with_reducible refine' r_tget1 ?_
  | with_reducible refine' r_tget2 ?_
  | with_reducible refine' r_dput ?_
  | with_reducible refine' r_tPr ?_
  | ((with_reducible refine' r_prp2 ?h1 ?h2); (case h1 => first | assumption | exact upd_same))
  | with_reducible refine' r_par3 ?_
  | ((with_reducible refine' r_dnT ?_); (intro np hnp))
  | ((with_reducible refine' r_dnK ?_); (intro np hnp)))
local macro_rules | `(tactic| walk_at "st") => `(tactic| first
  | with_reducible refine' r_tAtU ?_
  | ((with_reducible refine' r_fldU ?h0 ?h1 ?h2 ?h3); (case h1 => first | assumption | exact upd_same); (case h0 => first | assumption | walk_at "mem"); (case h2 => first | walk_at "lk" | rfl))
  | with_reducible refine' r_sAtU ?_
  | ((with_reducible refine' r_putUV ?h0 ?h2 ?h3); (case h0 => first | assumption | walk_at "mem"); (case h2 => (repeat refine putF_lt ?_); decide))
  | ((with_reducible refine' r_putUU ?h0 ?h1 ?h2 ?h3); (case h1 => first | assumption | exact upd_same); (case h0 => first | assumption | walk_at "mem"); (case h2 => (repeat refine putF_lt ?_); decide))
  | with_reducible refine' r_tMtU ?_
  | ((with_reducible refine' r_metU ?h0 ?h1 ?h2 ?h3); (case h1 => first | assumption | exact upd_same); (case h0 => first | assumption | walk_at "mem"); (case h2 => first | walk_at "lk" | rfl)))
local macro_rules | `(tactic| walk_at "mem") => `(tactic| (simp only [List.mem_cons, Prod.mk.injEq, List.not_mem_nil, or_false, true_and, and_true, true_or, or_true, reduceCtorEq, and_false, false_or]))
/-! What the law of senders reckons itself. -/
def Kd.s : Kd → Str
  | .no => "none"
  | .lv => "level"
  | .eg => "eager"
  | .wi => "window"
  | .pr => "probe"
structure KitS (cS cL cE cW cP : Addr) (K : PySem.W.Frag) : Prop where
  ty : ∀ c : Kd, Ty1 K (c.cls cS cL cE cW cP)
  s : ∀ c : Kd, PySem.W.kitOne K (.ref (c.cls cS cL cE cW cP)) (.ref cS) = some true
  l : ∀ c : Kd, PySem.W.kitOne K (.ref (c.cls cS cL cE cW cP)) (.ref cL) = some (match c with | .lv => true | _ => false)
  e : ∀ c : Kd, PySem.W.kitOne K (.ref (c.cls cS cL cE cW cP)) (.ref cE) = some (match c with | .eg => true | _ => false)
  w : ∀ c : Kd, PySem.W.kitOne K (.ref (c.cls cS cL cE cW cP)) (.ref cW) = some (match c with | .wi => true | _ => false)
  p : ∀ c : Kd, PySem.W.kitOne K (.ref (c.cls cS cL cE cW cP)) (.ref cP) = some (match c with | .pr => true | _ => false)
def StateAt (K : PySem.W.Frag) (H : Hp) (v : V) (st : St) : Prop := ∃ t vlo vhi vr, v = .ref t ∧ SqT K H t [vlo, vhi, .int st.dn, .int st.bg, vr] ∧ Am K H vlo st.lo ∧ Am K H vhi st.hi ∧ Am K H vr st.rt
theorem StateAt.f {S : List Addr} {K : PySem.W.Frag} {H H1 : Hp} {v : V} {st : St} (h : StateAt K H v st) (e : Ext S H H1) (ns : NoTup H S) : StateAt K H1 v st := by
  obtain ⟨t, vlo, vhi, vr, rfl, h, h1, h2, h3⟩ := h
  exact ⟨t, vlo, vhi, vr, rfl, tupF e h ns, h1.f e ns, h2.f e ns, h3.f e ns⟩
theorem StateAt.x0 {K : PySem.W.Frag} {H H1 : Hp} {v : V} {st : St} (h : StateAt K H v st) (e : Ext [] H H1) : StateAt K H1 v st := h.f e fun _ z => nomatch z
def SideL (a : Addr) (vt vm vs : V) : List (Key × V) := [(.inr "told", .ref a), (.inr "total", vt), (.inr "wish", vm), (.inr "state", vs)]
section
variable {a a1 : Addr} {vt vm vs v : V}
theorem sd_told : valV (SideL a vt vm vs) (.inr "told") = some (.ref a) := by kernel_rfl
theorem sd_total : valV (SideL a vt vm vs) (.inr "total") = some vt := by kernel_rfl
theorem sd_wish : valV (SideL a vt vm vs) (.inr "wish") = some vm := by kernel_rfl
theorem sd_state : valV (SideL a vt vm vs) (.inr "state") = some vs := by kernel_rfl
theorem se_told : putK (SideL a vt vm vs) (.inr "told") (.ref a1) = SideL a1 vt vm vs := by kernel_rfl
theorem se_total : putK (SideL a vt vm vs) (.inr "total") v = SideL a v vm vs := by kernel_rfl
theorem se_wish : putK (SideL a vt vm vs) (.inr "wish") v = SideL a vt v vs := by kernel_rfl
theorem se_state : putK (SideL a vt vm vs) (.inr "state") v = SideL a vt vm v := by kernel_rfl
theorem se_new : putK [(.inr "told", V.ref a), (.inr "total", vt), (.inr "wish", vm)] (.inr "state") v = SideL a vt vm v := by kernel_rfl
end
theorem gmax_eq (p q : Rat) : gmax p q = lmax p q := by unfold gmax lmax; grind
theorem share_eq {l m x : Rat} {w : Nat} : gmax l (lmin m (x * mkRat ((w : Nat) : Int) ((1 : Nat) : Nat))) = shq (some (l, m)) w x := by
  rw [gmax_eq]
  show _ = lmax l (lmin m ((w : Rat) * x))
  have : mkRat ((w : Nat) : Int) 1 = (w : Rat) := by rw [Rat.mkRat_eq_div]; push_cast; grind
  rw [this, Rat.mul_comm]
theorem eq_sz {K : PySem.W.Frag} {H : Hp} {vz : V} {z : SizeD} {i : Int} {Q : VK} (h : SizeIs K H vz z) (k : Q (.bl (decide (zn z = some i))) H) : rEqD K (.int i) vz H Q := by
  cases z with
  | no =>
    have h : vz = .non := h
    subst h
    exact ⟨.int i, .none, .int i, .non, rfl, rfl, by have : decide (zn .no = some i) = false := by simp [zn]
                                                     rw [this] at k; exact k⟩
  | win q =>
    obtain ⟨h, _⟩ := h
    refine ⟨.int i, _, .int i, dp_am h, rfl, rfl, ?_⟩
    have : decide (zn (.win q) = some i) = false := by simp [zn]
    rw [this] at k
    exact k
  | tries n =>
    obtain ⟨rfl, _⟩ := h
    refine ⟨.int i, .int n, .int i, .int n, rfl, rfl, ?_⟩
    have : decide (zn (.tries n) = some i) = PyData.eqv (.int i) (.int n) := by
      rw [Bool.eq_iff_iff]
      simp [zn, PyData.eqv]
      omega
    rw [this] at k
    exact k
section
variable {P : Program} {w : World} {K : PySem.W.Frag} {mg : Str → Option Value} {base : Heap} {f : Addr} {fd : FuncData}
def spClass (cS cL cE cW cP : Addr) : Sp := fun vs H Q _ => ∃ (a dx : Addr) (c : Kd) (fs : List (Str × V)), vs = [.ref a, .str c.s] ∧ H a = some (.ins (c.cls cS cL cE cW cP) dx fs) ∧ Q (.bl true) H
abbrev s_law_class : Stmt := top 73
theorem c_law_class : FnScope ["_law_told", "_law_called"] ["_law_told", "_law_called"] (defScope s_law_class) := ⟨rfl, rfl, rfl, by decide +kernel, rfl, by decide +kernel, by decide +kernel⟩
theorem f_law_class (F : FunD K "_law_class" "_law_class" (defArgs s_law_class) (defBody s_law_class) (defScope s_law_class) [] [] f fd) (hm : mg "_law_class" = some (.ref f)) {cS cL cE cW cP : Addr} (T : Bt mg) (kit : KitS cS cL cE cW cP K) (TSender : CtU K mg "Sender" cS (S5 cS cL cE cW cP) ["flow", "age", "total"]) (TLevelSender : Ct K mg "LevelSender" cL ["flow", "age", "total", "_levels"]) (TEagerSender : Ct K mg "EagerSender" cE ["flow", "age", "total", "_door"]) (TWindowSender : Ct K mg "WindowSender" cW ["flow", "age", "total", "_came"]) (TProbeSender : Ct K mg "ProbeSender" cP ["flow", "age", "total", "_bits", "_low", "_high", "_done", "_begun", "_rate"]) : Fn P w K mg base 1 "_law_class" (spClass cS cL cE cW cP) := by
  refine fn_def F hm c_law_class (fun vs H Q E h => ?_) (fun _ _ _ _ _ _ us hl => match us, hl with | [_, _], _ => rfl) (fun cdv A outer s H vs Q E hr h => ?_)
  · obtain ⟨a, dx, c, fs, rfl, _⟩ := h
    rfl
  · obtain ⟨a, dx, c, fs, rfl, ha, k⟩ := h
    have nd := c_law_class.nd
    refine ⟨_, (pss_cons (ps_if (PW.pt (pw_or (pt_cmpR op_ne (pe_callB call_isi (by rfl) T.isinstance (by decide +kernel) (pa_cons (pv 0) (pa_cons (pe_glob (v := .ref cL) (by rfl) TLevelSender.hm rfl) pa_nil))) (pe_cmpR op_eq (pv 1) pe_str (nomark _)) (nomark _)) (pw_or1 (pt_cmpR op_ne (pe_callB call_isi (by rfl) T.isinstance (by decide +kernel) (pa_cons (pv 0) (pa_cons (pe_glob (v := .ref cE) (by rfl) TEagerSender.hm rfl) pa_nil))) (pe_cmpR op_eq (pv 1) pe_str (nomark _)) (nomark _)))))
        (pss_one (ps_ret pe_bl))
        pss_nil)
      (pss_cons (ps_if (PW.pt (pw_or (pt_cmpR op_ne (pe_callB call_isi (by rfl) T.isinstance (by decide +kernel) (pa_cons (pv 0) (pa_cons (pe_glob (v := .ref cW) (by rfl) TWindowSender.hm rfl) pa_nil))) (pe_cmpR op_eq (pv 1) pe_str (nomark _)) (nomark _)) (pw_or1 (pt_cmpR op_ne (pe_callB call_isi (by rfl) T.isinstance (by decide +kernel) (pa_cons (pv 0) (pa_cons (pe_glob (v := .ref cP) (by rfl) TProbeSender.hm rfl) pa_nil))) (pe_cmpR op_eq (pv 1) pe_str (nomark _)) (nomark _)))))
        (pss_one (ps_ret pe_bl))
        pss_nil)
      (pss_one (ps_ret (pe_callB call_isi (by rfl) T.isinstance (by decide +kernel) (pa_cons (pv 0) (pa_cons (pe_glob (v := .ref cS) (by rfl) TSender.hm rfl) pa_nil))))))), ?_⟩
    show (_ : TS) _ [some _, some _] _
    try dsimp only [cxOf, Cx.nox]
    have y := kit.ty c
    have ks := kit.s c
    have kl := kit.l c
    have ke := kit.e c
    have kw := kit.w c
    have kp := kit.p c
    cases c <;> (
      walk_at "run"
      refine r_isiO y ha kl ?_
      walk_at "run"
      refine r_isiO y ha ke ?_
      walk_at "run"
      refine r_isiO y ha kw ?_
      walk_at "run"
      refine r_isiO y ha kp ?_
      walk_at "run"
      exact r_isiO y ha ks k)
def spHalf (K : PySem.W.Frag) : Sp := fun vs H Q _ => ∃ (v : V) (st : St) (X M : Nat), vs = [v] ∧ StateAt K H v st ∧ In X M st.lo ∧ In X M st.hi ∧ 0 < X ∧ X ≤ 2 ^ 400 ∧ 2 * M ≤ 2 ^ 400 ∧ RetAm K H Q (halfQ st)
abbrev s_law_half : Stmt := top 75
theorem c_law_half : FnScope ["_law_state"] ["_law_state"] (defScope s_law_half) := ⟨rfl, rfl, rfl, by decide +kernel, rfl, by decide +kernel, by decide +kernel⟩
theorem f_law_half (F : FunD K "_law_half" "_law_half" (defArgs s_law_half) (defBody s_law_half) (defScope s_law_half) [] [] f fd) (hm : mg "_law_half" = some (.ref f)) (F_law_sum : Fn P w K mg base 2 "_law_sum" (sp2 (fun _ _ => True) (· + ·) K)) (F_law_scaled : Fn P w K mg base 2 "_law_scaled" (spScaled K)) : Fn P w K mg base 3 "_law_half" (spHalf K) := by
  refine fn_def F hm c_law_half (fun vs H Q E h => ?_) (fun _ _ _ _ _ _ us hl => match us, hl with | [_], _ => rfl) (fun cdv A outer s H vs Q E hr h => ?_)
  · obtain ⟨v, st, X, M, rfl, _⟩ := h
    rfl
  · obtain ⟨v, st, X, M, rfl, hs, il, ih, X0, X4, M4, k⟩ := h
    have nd := c_law_half.nd
    refine ⟨_, (pss_one (ps_ret (pe_fn F_law_scaled (hr.mono (by decide)) (pa_cons (pe_fn F_law_sum (hr.mono (by decide)) (pa_cons (pe_ix ix_tup (pv 0) pe_int (fun _ _ => rfl)) (pa_cons (pe_ix ix_tup (pv 0) pe_int (fun _ _ => rfl)) pa_nil))) (pa_cons pe_int (pa_cons pe_int pa_nil)))))), ?_⟩
    show (_ : TS) _ [some _] _
    try dsimp only [cxOf, Cx.nox]
    obtain ⟨t, vlo, vhi, vr, rfl, ht, alo, ahi, art⟩ := hs
    have M4' : M ≤ 2 ^ 400 := by omega
    have iS := il.add ih
    rw [← Nat.two_mul] at iS
    walk_at "go"
    refine k_two alo ahi (szG il X0 X4 M4') (szG ih X0 X4 M4') il.nn ih.nn trivial fun v1 H1 e1 a1 => ?_
    walk_at "go"
    refine ⟨v1, st.lo + st.hi, 1, 2, rfl, a1, iS.nn, by decide, szG iS X0 X4 M4, Nat.lt_of_lt_of_le (by decide : 1 < 2 ^ 2) (Nat.pow_le_pow_right (by decide) (by decide)), Nat.lt_of_lt_of_le (by decide : 2 < 2 ^ 2) (Nat.pow_le_pow_right (by decide) (by decide)), fun v2 H2 e2 a2 => ?_⟩
    exact k v2 H2 (e1.trans e2) a2
def spSrch (K : PySem.W.Frag) : Sp := fun vs H Q _ => ∃ (b : Bag) (d : Addr) (vst : V) (now : Int) (vm : V) (hd : Addr) (age : Int) (F : FlowD) (st : St) (man : Option (Rat × Rat)) (kvs : List (List Key × V)) (lev : Str → Rat) (bit : Str → Bool) (came : Rat) (X M : Nat), vs = [.ref d, vst, .int now, vm, .ref hd, .int age] ∧
  FRowAt K H b d F ∧ StateAt K H vst st ∧ ManIs K H vm man ∧ H hd = some (.dT kvs) ∧ Hrd K H F.n F.rs kvs lev bit came ∧ F.rs.length ≤ 5 ∧ In X M st.lo ∧ In X M st.hi ∧ 0 < X ∧ X ≤ 2 ^ 400 ∧ 2 * M ≤ 2 ^ 400 ∧
  ∀ v H', Ext [] H H' → StateAt K H' v (srch F.c (zn F.z) age now man.isNone (F.rs.all bit) st) → Q v H'
abbrev s_law_searched : Stmt := top 76
theorem c_law_searched : FnScope ["_law_row", "_law_state", "_law_now_of", "_law_wish_here", "_law_heard", "_law_age_of", "_law_bottom", "_law_top", "_law_done", "_law_begun", "_law_rate", "_law_one"] ["_law_row", "_law_state", "_law_now_of", "_law_wish_here", "_law_heard", "_law_age_of"] (defScope s_law_searched) := ⟨rfl, rfl, rfl, by decide +kernel, rfl, by decide +kernel, by decide +kernel⟩
theorem f_law_searched (F : FunD K "_law_searched" "_law_searched" (defArgs s_law_searched) (defBody s_law_searched) (defScope s_law_searched) [] [] f fd) (hm : mg "_law_searched" = some (.ref f)) (T : Bt mg) (F_law_half : Fn P w K mg base 3 "_law_half" (spHalf K)) : Fn P w K mg base 4 "_law_searched" (spSrch K) := by
  refine fn_def F hm c_law_searched (fun vs H Q E h => ?_) (fun _ _ _ _ _ _ us hl => match us, hl with | [_, _, _, _, _, _], _ => rfl) (fun cdv A outer s H vs Q E hr h => ?_)
  · obtain ⟨b, d, vst, now, vm, hd, age, F, st, man, kvs, lev, bit, came, X, M, rfl, _⟩ := h
    rfl
  · obtain ⟨b, d, vst, now, vm, hd, age, F0, st, man, kvs, lev, bit, came, X, M, rfl, hrow, hst, hm, hhd, hh, r5, il, ih, X0, X4, M4, k⟩ := h
    have nd := c_law_searched.nd
    refine ⟨_, (pss_cons (ps_if (pt_cmpR (op_eqD hr.units) (pv 3) (pe_tup pa_nil) (nomark _))
        (pss_one (ps_ret (pe_tup (pa_cons (pe_tup (pa_cons pe_int (pa_cons pe_int pa_nil))) (pa_cons (pe_dget (hu_of hr) (pv 0) pe_str (fun _ _ => rfl)) (pa_cons pe_int (pa_cons (pe_op op_add (pv 2) pe_int) (pa_cons (pe_tup (pa_cons pe_int (pa_cons pe_int pa_nil))) pa_nil))))))))
        pss_nil)
      (pss_cons (ps_asg (pv 1) (pg_tup rfl (pgs_cons (pg_name (i := 6) nd rfl (by first | exact Or.inl rfl | exact Or.inr rfl)) (pgs_cons (pg_name (i := 7) nd rfl (by first | exact Or.inl rfl | exact Or.inr rfl)) (pgs_cons (pg_name (i := 8) nd rfl (by first | exact Or.inl rfl | exact Or.inr rfl)) (pgs_cons (pg_name (i := 9) nd rfl (by first | exact Or.inl rfl | exact Or.inr rfl)) (pgs_cons (pg_name (i := 10) nd rfl (by first | exact Or.inl rfl | exact Or.inr rfl)) pgs_nil)))))))
      (pss_cons (ps_if (pt_cmpR op_lt (pe_op op_sub (pv 2) (pv 9)) (pe_op op_mul pe_int (pv 5)) (nomark _))
        (pss_one (ps_ret (pv 1)))
        pss_nil)
      (pss_mid (ps_if (pt_val (pe_callB (cr_all rfl) (by rfl) T.all (by decide +kernel) (pa_cons (pe_lc (own := [("_law_one", 11)]) (g := gName 11) rfl nd (pi_list (pe_dget (hu_of hr) (pv 0) pe_str (fun _ _ => rfl))) (blkOk_by (N := ["_law_row", "_law_state", "_law_now_of", "_law_wish_here", "_law_heard", "_law_age_of", "_law_bottom", "_law_top", "_law_done", "_law_begun", "_law_rate", "_law_one"]) (sc := defScope s_law_searched) (by decide +kernel)) (fun _ _ _ _ _ => pg_name (i := 11) nd rfl (Or.inl rfl)) (fun _ _ _ _ _ => pts_nil) (fun _ _ _ _ _ => (pe_dget2 (hu_of hr) (pv 4) (pe_tup (pa_cons pe_str (pa_cons (pv 11) (pa_cons (pe_dget (hu_of hr) (pv 0) pe_str (fun _ _ => rfl) : PE _ _ (tDGet _ _)) (pa_cons (pe_dget (hu_of hr) (pv 0) pe_str (fun _ _ => rfl) : PE _ _ (tDGet _ _)) pa_nil))))) pe_bl ⟨by rfl, by rfl, by rfl, by rfl⟩))) pa_nil)))
        (pss_one (ps_set (i := 6) nd rfl (by first | exact Or.inl rfl | exact Or.inr rfl) (pe_fn F_law_half (hr.mono (by decide)) (pa_cons (pv 1) pa_nil))))
        (pss_one (ps_set (i := 7) nd rfl (by first | exact Or.inl rfl | exact Or.inr rfl) (pe_fn F_law_half (hr.mono (by decide)) (pa_cons (pv 1) pa_nil)))))
      (pss_cons (ps_if (pt_cmpR (op_eqD hr.units) (pe_op op_add (pv 8) pe_int) (pe_dget (hu_of hr) (pv 0) pe_str (fun _ _ => rfl)) (nomark _))
        (pss_one (ps_ret (pe_tup (pa_cons (pe_tup (pa_cons pe_int (pa_cons pe_int pa_nil))) (pa_cons (pe_dget (hu_of hr) (pv 0) pe_str (fun _ _ => rfl)) (pa_cons pe_int (pa_cons (pv 2) (pa_cons (pv 6) pa_nil))))))))
        pss_nil)
      (pss_one (ps_ret (pe_tup (pa_cons (pv 6) (pa_cons (pv 7) (pa_cons (pe_op op_add (pv 8) pe_int) (pa_cons (pv 2) (pa_cons (pv 10) pa_nil))))))))))))), ?_⟩
    show (_ : TS) _ [some _, some _, some _, some _, some _, some _, none, none, none, none, none, none] _
    try dsimp only [cxOf, Cx.nox]
    walk_at "go"
    rename_i pe hpe
    have e2 : Ext [] H (upd H pe (.tup [])) := Ext.refl.new hpe
    refine eq_man (hm.x0 e2) tupS ?_
    have hrow2 := hrow.x0 e2
    have hst2 := hst.x0 e2
    have hhd2 := e2 _ _ hhd fun z => nomatch z
    have hh2 := hh.x0 e2
    clear hrow hst hhd hh
    generalize upd H pe (.tup []) = H2 at *
    obtain ⟨ra, ba, xs, vz, vg, vG, vD, vmm, h0, h1, h2, n1, n2, h3, h4, h5, h6, h7, h8⟩ := hrow2
    cases man with
    | none =>
      walk_at "run"
      rename_i q1 hq1
      refine r_getS ((Ext.refl.new hq1 : Ext [] H2 _) _ _ h0 fun z => nomatch z) rv_G ?_
      walk_at "run"
      have hsr : srch F0.c (zn F0.z) age now (none : Option (Rat × Rat)).isNone (F0.rs.all bit) st = ⟨0, F0.c, 0, now + 1, 0⟩ := rfl
      rw [hsr] at k
      rename_i q2 hq2 q3 hq3
      generalize hG : upd _ q3 _ = H5
      have e5 : Ext [] H2 H5 := by rw [← hG]; walk_at "ext"
      refine k _ _ (e2.trans e5) ⟨q3, .ref q1, vG, .ref q2, rfl, by rw [← hG]; exact tupS, ⟨q1, rfl, ?_⟩, h6.x0 e5, ⟨q2, rfl, ?_⟩⟩
      · rw [← hG]; show SqT K _ q1 [.int 0, .int 1]; walk_at "sq"
      · rw [← hG]; show SqT K _ q2 [.int 0, .int 1]; walk_at "sq"
    | some pr =>
      have hsr : srch F0.c (zn F0.z) age now (some pr).isNone (F0.rs.all bit) st = if now - st.bg < 2 * age then st else tryS F0.c (zn F0.z) now (F0.rs.all bit) st := rfl
      rw [hsr] at k
      obtain ⟨t, vlo, vhi, vr, rfl, ht, alo, ahi, art⟩ := id hst2
      walk_at "run"
      refine r_I (.inl ⟨by decide, by decide⟩) ?_
      walk_at "run"
      refine r_dec (fun hlt => ?_) (fun hge => ?_)
      · rw [if_pos hlt] at k
        walk_at "run"
        exact k _ _ e2 hst2
      · rw [if_neg hge] at k
        walk_at "run"
        refine r_mid (fun σ' H' => ∃ vlo' vhi' u11, σ' = [some (V.ref d), some (V.ref t), some (V.int now), some vm, some (V.ref hd), some (V.int age), some vlo', some vhi', some (V.int st.dn), some (V.int st.bg), some vr, u11] ∧ Am K H' vlo' (if F0.rs.all bit = true then halfQ st else st.lo) ∧ Am K H' vhi' (if F0.rs.all bit = true then st.hi else halfQ st) ∧ Ext [] H2 H') ?_ ?_
        · walk_at "run"
          refine r_getS h0 rv_route ?_
          walk_at "run"
          refine ⟨ra, rfl, ⟨_, h1⟩, fun D hD => ?_⟩
          refine r_lcL (xs := F0.rs.map V.str) (fun i H1 => H1 D = some (.lst (((F0.rs.map bit).take i).map V.bl)) ∧ Ext [] H2 H1) ⟨upd_same, Ext.refl.new hD⟩ ?_ ?_ ?_
          · rintro i H1 _ ⟨_, e⟩
            exact lst0 e h1
          · rintro i x H1 hx ⟨hacc, e1⟩
            rw [List.getElem?_map] at hx
            obtain ⟨r, hr, rfl⟩ := Option.map_eq_some_iff.mp hx
            have hrm := List.mem_of_getElem? hr
            have h01 := e1 _ _ h0 fun z => nomatch z
            have hhd1 := e1 _ _ hhd2 fun z => nomatch z
            have hi := (List.getElem?_eq_some_iff.mp hr).1
            walk_at "go"
            refine ⟨rfl, ?_⟩
            walk_at "go"
            refine ⟨hd, rfl, .inr ⟨_, .inl hhd1⟩, ?_⟩
            walk_at "go"
            refine r_getS h01 rv_name ?_
            walk_at "go"
            refine r_getS h01 rv_name ?_
            walk_at "go"
            rename_i tk htk
            have e3 : Ext [] H1 (upd H1 tk (.tup [.str "bit", .str r, .str F0.n, .str F0.n])) := Ext.refl.new htk
            refine ⟨valV kvs (bitK F0.n r), .inr ⟨_, bitK F0.n r, tk, .inl (e3 _ _ hhd1 fun z => nomatch z), rfl, upd_same, rfl⟩, ?_⟩
            have hv : (valV kvs (bitK F0.n r)).getD (.bl false) = .bl (bit r) := by
              rcases hh2.bt r hrm with ⟨h1, h2⟩ | h1
              · rw [h1, h2]; rfl
              · rw [h1]; rfl
            rw [hv]
            refine ⟨_, e3 _ _ hacc (fun z => nomatch z), Nat.lt_of_le_of_lt (by rw [List.length_map, List.length_take, List.length_map]; omega : _ ≤ 5) (by decide), ?_, (e1.trans e3).own hD⟩
            rw [upd_same, List.take_add_one, List.getElem?_map, hr, List.map_append]
            rfl
          · rintro H1 ⟨hacc, e1⟩
            rw [List.length_map, List.take_of_length_le (by rw [List.length_map]; exact Nat.le_refl _)] at hacc
            walk_at "run"
            refine r_all (.inl (.inl hacc)) ?_
            rw [show (F0.rs.map bit).all id = F0.rs.all bit by rw [List.all_map]; rfl]
            walk_at "run"
            cases hall : F0.rs.all bit with
            | true =>
              walk_at "run"
              refine ⟨_, st, X, M, rfl, hst2.x0 e1, il, ih, X0, X4, M4, fun u H3 e3 a3 => ?_⟩
              walk_at "run"
              exact ⟨_, _, _, rfl, a3, (ahi.x0 e1).x0 e3, e1.trans e3⟩
            | false =>
              walk_at "run"
              refine ⟨_, st, X, M, rfl, hst2.x0 e1, il, ih, X0, X4, M4, fun u H3 e3 a3 => ?_⟩
              walk_at "run"
              exact ⟨_, _, _, rfl, (alo.x0 e1).x0 e3, a3, e1.trans e3⟩
        · rintro σ H3 ⟨vlo', vhi', u11, rfl, al, ah, e3⟩
          have h03 := e3 _ _ h0 fun z => nomatch z
          walk_at "run"
          refine r_getS h03 rv_size ?_
          refine eq_sz (h4.x0 e3) ?_
          walk_at "run"
          refine r_dec (fun he => ?_) (fun he => ?_)
          · walk_at "run"
            rename_i q1 hq1
            have e4 : Ext [] H3 (upd H3 q1 (.tup [.int 0, .int 1])) := Ext.refl.new hq1
            refine r_getS (e4 _ _ h03 fun z => nomatch z) rv_G ?_
            walk_at "run"
            rename_i q3 hq3
            generalize hG : upd _ q3 _ = H5
            have e5 : Ext [] H3 H5 := by rw [← hG]; walk_at "ext"
            refine k _ _ ((e2.trans e3).trans e5) ?_
            unfold tryS
            rw [if_pos he]
            exact ⟨q3, .ref q1, vG, vlo', rfl, by rw [← hG]; exact tupS, ⟨q1, rfl, by rw [← hG]; show SqT K _ q1 [.int 0, .int 1]; walk_at "sq"⟩, (h6.x0 e3).x0 e5, al.x0 e5⟩
          · walk_at "run"
            rename_i q3 hq3
            generalize hG : upd _ q3 _ = H5
            have e5 : Ext [] H3 H5 := by rw [← hG]; walk_at "ext"
            refine k _ _ ((e2.trans e3).trans e5) ?_
            unfold tryS
            rw [if_neg he]
            exact ⟨q3, vlo', vhi', vr, rfl, by rw [← hG]; exact tupS, al.x0 e5, ah.x0 e5, (art.x0 e3).x0 e5⟩
end
end Yk

set_option maxHeartbeats 16000000
namespace Yk
open PySem PySem.Spec PyProof.Rows L2

local macro_rules | `(tactic| walk_at "st") => `(tactic| first
  | with_reducible refine' r_tAt ?_
  | ((with_reducible refine' r_fld ?h1 ?h2 ?h3); (case h1 => first | assumption | exact upd_same); (case h2 => first | walk_at "lk" | rfl))
  | with_reducible refine' r_sAt ?_
  | ((with_reducible refine' r_putU ?h1 ?h2); (case h1 => (repeat refine putF_lt ?_); decide))
  | ((with_reducible refine' r_put ?h1 ?h2 ?h3); (case h1 => first | assumption | exact upd_same); (case h2 => (repeat refine putF_lt ?_); decide))
  | with_reducible refine' r_tMt ?_
  | ((with_reducible refine' r_met ?h1 ?h2 ?h3); (case h1 => first | assumption | exact upd_same); (case h2 => first | walk_at "lk" | rfl))
  | with_reducible refine' r_tCr ?_
  | with_reducible refine' r_tCrK ?_
  | with_reducible refine' r_chain ?_)
local macro_rules | `(tactic| walk_at "st") => `(tactic| first
  | with_reducible refine' r_dget ?_
  | with_reducible refine' r_dc ?_
  | with_reducible refine' r_iVals ?_
  | with_reducible refine' r_dnotin ?_
  | with_reducible refine' r_din ?_
  | with_reducible refine' r_iItems ?_
  | with_reducible refine' r_iKeysT ?_
  | with_reducible refine' r_tget1 ?_
  | with_reducible refine' r_tget2 ?_
  | with_reducible refine' r_dput ?_
  | with_reducible refine' r_tPr ?_
  | ((with_reducible refine' r_prp2 ?h1 ?h2); (case h1 => first | assumption | exact upd_same))
  | with_reducible refine' r_par3 ?_
  | ((with_reducible refine' r_dnT ?_); (intro np hnp))
  | ((with_reducible refine' r_dnK ?_); (intro np hnp)))
local macro_rules | `(tactic| walk_at "st") => `(tactic| first
  | with_reducible refine' r_tAtU ?_
  | ((with_reducible refine' r_fldU ?h0 ?h1 ?h2 ?h3); (case h1 => first | assumption | exact upd_same); (case h0 => first | assumption | walk_at "mem"); (case h2 => first | walk_at "lk" | rfl))
  | with_reducible refine' r_sAtU ?_
  | ((with_reducible refine' r_putUV ?h0 ?h2 ?h3); (case h0 => first | assumption | walk_at "mem"); (case h2 => (repeat refine putF_lt ?_); decide))
  | ((with_reducible refine' r_putUU ?h0 ?h1 ?h2 ?h3); (case h1 => first | assumption | exact upd_same); (case h0 => first | assumption | walk_at "mem"); (case h2 => (repeat refine putF_lt ?_); decide))
  | with_reducible refine' r_tMtU ?_
  | ((with_reducible refine' r_metU ?h0 ?h1 ?h2 ?h3); (case h1 => first | assumption | exact upd_same); (case h0 => first | assumption | walk_at "mem"); (case h2 => first | walk_at "lk" | rfl)))
local macro_rules | `(tactic| walk_at "mem") => `(tactic| (simp only [List.mem_cons, Prod.mk.injEq, List.not_mem_nil, or_false, true_and, and_true, true_or, or_true, reduceCtorEq, and_false, false_or]))
/-! What is due, what is heard. -/
theorem hgt_take {rs : List Str} {lev : Str → Rat} {i : Nat} {r : Str} (h : rs[i]? = some r) : ((rs.take (i + 1)).map lev).foldl lmin 1000 = lmin (((rs.take i).map lev).foldl lmin 1000) (lev r) := by
  rw [List.take_add_one, h, List.map_append, List.foldl_append]
  rfl
theorem hgt_in {rs : List Str} {lev : Str → Rat} (h : ∀ r ∈ rs, In 30 1000 (lev r)) : In 30 1000 ((rs.map lev).foldl lmin 1000) := by
  have : ∀ (l : List Str) (p : Rat), (∀ r ∈ l, In 30 1000 (lev r)) → In 30 1000 p → In 30 1000 ((l.map lev).foldl lmin p) := by
    intro l
    induction l with
    | nil => intro p _ hp; exact hp
    | cons r l ih =>
      intro p hl hp
      exact ih _ (fun x hx => hl x (List.mem_cons_of_mem _ hx)) (in_lmin hp (hl r List.mem_cons_self))
  exact this rs 1000 h (In.nat (Nat.le_refl 1000))
section
variable {P : Program} {w : World} {K : PySem.W.Frag} {mg : Str → Option Value} {base : Heap} {f : Addr} {fd : FuncData}
def spLShare (K : PySem.W.Frag) : Sp := fun vs H Q _ => ∃ (vm v : V) (wt : Nat) (man : Option (Rat × Rat)) (q : Rat), vs = [vm, .int (wt : Int), v] ∧ ManIs K H vm man ∧ Am K H v q ∧ wt ≤ 12 ∧ (∀ p, man = some p → In 27000 1000 p.1 ∧ In 27000 1000 p.2) ∧ In 30 1000 q ∧ RetAm K H Q (shq man wt q)
abbrev s_law_share : Stmt := top 71
theorem c_law_share : FnScope ["_law_wish_here", "_law_weight_of", "_law_height"] ["_law_wish_here", "_law_weight_of", "_law_height"] (defScope s_law_share) := ⟨rfl, rfl, rfl, by decide +kernel, rfl, by decide +kernel, by decide +kernel⟩
theorem f_law_share (F : FunD K "_law_share" "_law_share" (defArgs s_law_share) (defBody s_law_share) (defScope s_law_share) [] [] f fd) (hm : mg "_law_share" = some (.ref f)) (F_law_min : Fn P w K mg base 2 "_law_min" (sp2 (fun _ _ => True) lmin K)) (F_law_max : Fn P w K mg base 2 "_law_max" (sp2 (fun _ _ => True) gmax K)) (F_law_scaled : Fn P w K mg base 2 "_law_scaled" (spScaled K)) : Fn P w K mg base 3 "_law_share" (spLShare K) := by
  refine fn_def F hm c_law_share (fun vs H Q E h => ?_) (fun _ _ _ _ _ _ us hl => match us, hl with | [_, _, _], _ => rfl) (fun cdv A outer s H vs Q E hr h => ?_)
  · obtain ⟨vm, v, wt, man, q, rfl, _⟩ := h
    rfl
  · obtain ⟨vm, v, wt, man, q, rfl, hm, hv, w12, im, iq, k⟩ := h
    have nd := c_law_share.nd
    refine ⟨_, (pss_cons (ps_if (pt_cmpR (op_eqD hr.units) (pv 0) (pe_tup pa_nil) (nomark _))
        (pss_one (ps_ret (pe_tup (pa_cons pe_int (pa_cons pe_int pa_nil)))))
        pss_nil)
      (pss_one (ps_ret (pe_fn F_law_max (hr.mono (by decide)) (pa_cons (pe_ix ix_tup (pv 0) pe_int (fun _ _ => rfl)) (pa_cons (pe_fn F_law_min (hr.mono (by decide)) (pa_cons (pe_ix ix_tup (pv 0) pe_int (fun _ _ => rfl)) (pa_cons (pe_fn F_law_scaled (hr.mono (by decide)) (pa_cons (pv 2) (pa_cons (pv 1) (pa_cons pe_int pa_nil)))) pa_nil))) pa_nil)))))), ?_⟩
    show (_ : TS) _ [some _, some _, some _] _
    try dsimp only [cxOf, Cx.nox]
    walk_at "go"
    rename_i pe hpe
    have e2 : Ext [] H (upd H pe (.tup [])) := Ext.refl.new hpe
    refine eq_man (hm.x0 e2) tupS ?_
    have hm2 := hm.x0 e2
    have hv2 := hv.x0 e2
    clear hm hv
    generalize upd H pe (.tup []) = H2 at *
    cases man with
    | none =>
      walk_at "run"
      rename_i p hp
      exact k _ _ (e2.trans (Ext.refl.new hp)) ⟨p, rfl, tupS⟩
    | some pr =>
      obtain ⟨l, m⟩ := pr
      obtain ⟨il, im⟩ := im (l, m) rfl
      obtain ⟨t, v1, v2, rfl, ht, a1, a2⟩ := id hm2
      have z27 : ∀ {q : Rat}, In 27000 1000 q → Sz 4000 q := fun i => inz i (by decide) (by decide) (by decide)
      have ix : In 30 12000 (q * mkRat ((wt : Nat) : Int) 1) := by
        have h1 : In 1 12 (mkRat ((wt : Nat) : Int) 1) := In.frac (by decide) (Nat.dvd_refl 1) (by omega)
        have := iq.mul h1
        exact this
      walk_at "run"
      refine ⟨v, q, wt, 1, rfl, hv2, iq.nn, by decide, in30z iq z1000, Nat.lt_of_le_of_lt w12 (Nat.lt_of_lt_of_le (by decide : 12 < 2 ^ 4) (Nat.pow_le_pow_right (by decide) (by decide))), Nat.lt_of_lt_of_le (by decide : 1 < 2 ^ 4) (Nat.pow_le_pow_right (by decide) (by decide)), fun v3 H3 e3 a3 => ?_⟩
      have zx : Sz 4000 (q * mkRat ((wt : Nat) : Int) 1) := inz ix (by decide) (by decide) (by decide)
      walk_at "run"
      refine k_two (a2.x0 e3) a3 (z27 im) zx im.nn ix.nn trivial fun v4 H4 e4 a4 => ?_
      have i4 : In 27000 12000 (lmin m (q * mkRat ((wt : Nat) : Int) 1)) := in_lmin (im.most (by decide)) (ix.up (by decide))
      walk_at "run"
      refine k_two ((a1.x0 e3).x0 e4) a4 (z27 il) (inz i4 (by decide) (by decide) (by decide)) il.nn i4.nn trivial fun v5 H5 e5 a5 => ?_
      refine k v5 H5 (e2.trans (e3.trans (e4.trans e5))) ?_
      rw [← share_eq]
      exact a5
def spDue (K : PySem.W.Frag) : Sp := fun vs H Q _ => ∃ (b : Bag) (d d2 : Addr) (vm : V) (hd a : Addr) (vt vw vst : V) (F : FlowD) (c : Kd) (tot : Rat) (st : St) (man : Option (Rat × Rat)) (kvs : List (List Key × V)) (lev : Str → Rat) (bit : Str → Bool) (came : Rat) (X M : Nat) (age : Int),
  vs = [.ref d, .ref d2, vm, .ref hd] ∧ FRowAt K H b d F ∧ H d2 = some (.dK (SideL a vt vw vst)) ∧ Am K H vt tot ∧ StateAt K H vst st ∧ ManIs K H vm man ∧ H hd = some (.dT kvs) ∧ Hrd K H F.n F.rs kvs lev bit came ∧ KdIs c F.d ∧ KdOk c F.z ∧ OffB X M age F man lev came tot st ∧ (man = none → st.rt = 0) ∧
  (∀ r ∈ F.rs, In 30 1000 (lev r)) ∧ (∀ p, man = some p → In 27000 1000 p.1 ∧ In 27000 1000 p.2) ∧ ∀ v H', Ext [] H H' → Am K H' v (offQ c F man lev came tot st.rt) → Q v H'
abbrev s_law_due : Stmt := top 77
theorem c_law_due : FnScope ["_law_row", "_law_side", "_law_wish_here", "_law_heard", "_law_height", "_law_one", "_law_came"] ["_law_row", "_law_side", "_law_wish_here", "_law_heard"] (defScope s_law_due) := ⟨rfl, rfl, rfl, by decide +kernel, rfl, by decide +kernel, by decide +kernel⟩
theorem f_law_due (F : FunD K "_law_due" "_law_due" (defArgs s_law_due) (defBody s_law_due) (defScope s_law_due) [] [] f fd) (hm : mg "_law_due" = some (.ref f)) (T : Bt mg) (F_law_share : Fn P w K mg base 3 "_law_share" (spLShare K)) (F_law_min : Fn P w K mg base 2 "_law_min" (sp2 (fun _ _ => True) lmin K)) (F_law_sum : Fn P w K mg base 2 "_law_sum" (sp2 (fun _ _ => True) (· + ·) K)) (F_law_rest : Fn P w K mg base 2 "_law_rest" (sp2 (fun _ _ => True) restQ K)) : Fn P w K mg base 4 "_law_due" (spDue K) := by
  refine fn_def F hm c_law_due (fun vs H Q E h => ?_) (fun _ _ _ _ _ _ us hl => match us, hl with | [_, _, _, _], _ => rfl) (fun cdv A outer s H vs Q E hr h => ?_)
  · obtain ⟨b, d, d2, vm, hd, a, vt, vw, vst, F, c, tot, st, man, kvs, lev, bit, came, X, M, age, rfl, _⟩ := h
    rfl
  · obtain ⟨b, d, d2, vm, hd, a, vt, vw, vst, F0, c, tot, st, man, kvs, lev, bit, came, X, M, age, rfl, hrow, hd2, hvt, hst, hm, hhd, hh, hk, hkz, hb, hrt, ilev, iman, k⟩ := h
    have nd := c_law_due.nd
    refine ⟨_, (pss_cons (ps_if (pt_cmpR (op_eqD hr.units) (pv 2) (pe_tup pa_nil) (nomark _))
        (pss_one (ps_ret (pe_tup (pa_cons pe_int (pa_cons pe_int pa_nil)))))
        pss_nil)
      (pss_cons (ps_if (pt_cmpR op_eq (pe_dget (hu_of hr) (pv 0) pe_str (fun _ _ => rfl)) pe_str (nomark _))
        (pss_cons (ps_set (i := 4) nd rfl (by first | exact Or.inl rfl | exact Or.inr rfl) (pe_tup (pa_cons pe_int (pa_cons pe_int pa_nil))))
        (pss_cons (ps_for PassesOwn.never rfl (pi_list (pe_dget (hu_of hr) (pv 0) pe_str (fun _ _ => rfl))) (pg_name (i := 5) nd rfl (by first | exact Or.inl rfl | exact Or.inr rfl))
          (pss_one (ps_set (i := 4) nd rfl (by first | exact Or.inl rfl | exact Or.inr rfl) (pe_fn F_law_min (hr.mono (by decide)) (pa_cons (pv 4) (pa_cons (pe_dget2 (hu_of hr) (pv 3) (pe_tup (pa_cons pe_str (pa_cons (pv 5) (pa_cons (pe_dget (hu_of hr) (pv 0) pe_str (fun _ _ => rfl)) (pa_cons pe_str pa_nil))))) (pe_tup (pa_cons pe_int (pa_cons pe_int pa_nil))) ⟨by rfl, by rfl, by rfl, by rfl⟩) pa_nil))))))
        (pss_one (ps_ret (pe_fn F_law_share (hr.mono (by decide)) (pa_cons (pv 2) (pa_cons (pe_dget (hu_of hr) (pv 0) pe_str (fun _ _ => rfl)) (pa_cons (pv 4) pa_nil))))))))
        pss_nil)
      (pss_cons (ps_if (pt_cmpR op_eq (pe_dget (hu_of hr) (pv 0) pe_str (fun _ _ => rfl)) pe_str (nomark _))
        (pss_one (ps_ret (pe_dget (hu_of hr) (pv 0) pe_str (fun _ _ => rfl))))
        pss_nil)
      (pss_cons (ps_if (pt_cmpR op_eq (pe_dget (hu_of hr) (pv 0) pe_str (fun _ _ => rfl)) pe_str (nomark _))
        (pss_one (ps_ret (pe_ix ix_tup (pe_dget (hu_of hr) (pv 1) pe_str (fun _ _ => rfl)) pe_int (fun _ _ => rfl))))
        pss_nil)
      (pss_cons (ps_set (i := 6) nd rfl (by first | exact Or.inl rfl | exact Or.inr rfl) (pe_dget2 (hu_of hr) (pv 3) (pe_tup (pa_cons pe_str (pa_cons (pe_dget (hu_of hr) (pv 0) pe_str (fun _ _ => rfl)) (pa_cons (pe_dget (hu_of hr) (pv 0) pe_str (fun _ _ => rfl)) (pa_cons (pe_dget (hu_of hr) (pv 0) pe_str (fun _ _ => rfl)) pa_nil))))) (pe_tup (pa_cons pe_int (pa_cons pe_int pa_nil))) ⟨by rfl, by rfl, by rfl, by rfl⟩))
      (pss_one (ps_ret (pe_fn F_law_min (hr.mono (by decide)) (pa_cons (pe_dget (hu_of hr) (pv 0) pe_str (fun _ _ => rfl)) (pa_cons (pe_fn F_law_rest (hr.mono (by decide)) (pa_cons (pe_fn F_law_sum (hr.mono (by decide)) (pa_cons (pe_dget (hu_of hr) (pv 0) pe_str (fun _ _ => rfl)) (pa_cons (pv 6) pa_nil))) (pa_cons (pe_dget (hu_of hr) (pv 1) pe_str (fun _ _ => rfl)) pa_nil))) pa_nil)))))))))), ?_⟩
    show (_ : TS) _ [some _, some _, some _, some _, none, none, none] _
    try dsimp only [cxOf, Cx.nox]
    walk_at "go"
    rename_i pe hpe
    have e2 : Ext [] H (upd H pe (.tup [])) := Ext.refl.new hpe
    refine eq_man (hm.x0 e2) tupS ?_
    have hm2 := hm.x0 e2
    have hrow2 := hrow.x0 e2
    have hd22 := e2 _ _ hd2 fun z => nomatch z
    have hvt2 := hvt.x0 e2
    have hst2 := hst.x0 e2
    have hhd2 := e2 _ _ hhd fun z => nomatch z
    have hh2 := hh.x0 e2
    clear hm hrow hd2 hvt hst hhd hh
    generalize upd H pe (.tup []) = H2 at *
    obtain ⟨ra, ba, xs, vz, vg, vG, vD, vmm, h0, h1, h2, n1, n2, h3, h4, h5, h6, h7, h8⟩ := hrow2
    have M4 := hb.M4
    have M4' : M ≤ 2 ^ 400 := by omega
    have z4 : ∀ {q : Rat}, In X M q → Sz 4000 q := fun i => szG i hb.X0 hb.X4 M4'
    cases man with
    | none =>
      walk_at "run"
      rename_i p hp
      have h0 : offQ c F0 none lev came tot st.rt = 0 := by
        cases c with
        | no => rfl
        | lv => rfl
        | eg => rfl
        | wi => rfl
        | pr => exact hrt rfl
      rw [h0] at k
      exact k _ _ (e2.trans (Ext.refl.new hp)) ⟨p, rfl, tupS⟩
    | some pr =>
      walk_at "run"
      refine r_getS h0 rv_kind ?_
      walk_at "run"
      cases c with
      | no => exact absurd hk id
      | lv =>
        have hd' : F0.d = "level" := hk
        rw [hd'] at h0 ⊢
        refine r_true (decide_eq_true rfl) ?_
        walk_at "run"
        rename_i p hp
        have e3 : Ext [] H2 (upd H2 p (.tup [.int 1000, .int 1])) := Ext.refl.new hp
        refine r_for ?_
        refine r_iList ?_
        walk_at "go"
        refine r_getS (e3 _ _ h0 fun z => nomatch z) rv_route ?_
        walk_at "go"
        refine ⟨ra, rfl, ⟨_, lst0 e3 h1⟩, ?_⟩
        refine r_loopL (xs := F0.rs.map V.str) (fun i σ H1 => Ext [] H2 H1 ∧ ∃ vh u5, σ = [some (.ref d), some (.ref d2), some vm, some (.ref hd), some vh, u5, none] ∧ Am K H1 vh (((F0.rs.take i).map lev).foldl lmin 1000)) ⟨e3, _, _, rfl, ⟨p, rfl, tupS⟩⟩ (fun i σ H1 _ h => lst0 h.1 h1) ?_ ?_
        · rintro i x σ H1 hx ⟨e1, vh, u5, rfl, ah⟩
          rw [List.getElem?_map] at hx
          obtain ⟨r, hr, rfl⟩ := Option.map_eq_some_iff.mp hx
          have hrm := List.mem_of_getElem? hr
          have h01 := e1 _ _ h0 fun z => nomatch z
          have hhd1 := e1 _ _ hhd2 fun z => nomatch z
          walk_at "go"
          refine ⟨hd, rfl, .inr ⟨_, .inl hhd1⟩, ?_⟩
          walk_at "go"
          refine r_getS h01 rv_name ?_
          walk_at "go"
          rename_i tk htk td htd
          have e4 : Ext [] H1 (upd (upd H1 tk (.tup [.str "level", .str r, .str F0.n, .str ""])) td (.tup [.int 0, .int 1])) := (Ext.refl.new htk).new htd
          have ntk : tk ≠ td := fun z => by rw [← z, upd_same] at htd; cases htd
          refine ⟨valV kvs (lvK F0.n r), .inr ⟨_, lvK F0.n r, tk, .inl (e4 _ _ hhd1 fun z => nomatch z), rfl, by rw [upd_ne ntk]; exact upd_same, rfl⟩, ?_⟩
          have hav : Am K (upd (upd H1 tk (.tup [.str "level", .str r, .str F0.n, .str ""])) td (.tup [.int 0, .int 1])) ((valV kvs (lvK F0.n r)).getD (.ref td)) (lev r) := by
            rcases ((hh2.x0 e1).x0 e4).lv r hrm with ⟨g1, g2⟩ | ⟨v, g1, g2⟩
            · rw [g1, g2]
              exact ⟨td, rfl, tupS⟩
            · rw [g1]
              exact g2
          have ih := hgt_in (rs := F0.rs.take i) (lev := lev) fun r hr => ilev r (List.mem_of_mem_take hr)
          refine k_two (E := E0) (ah.x0 e4) hav (in30z ih z1000) (in30z (ilev r hrm) z1000) ih.nn (ilev r hrm).nn trivial fun v5 H5 e5 a5 => ?_
          walk_at "go"
          refine ⟨e1.trans (e4.trans e5), _, _, rfl, ?_⟩
          rw [hgt_take hr]
          exact a5
        · rintro σ H1 ⟨e1, vh, u5, rfl, ah⟩
          rw [List.length_map, List.take_length] at ah
          have h01 := e1 _ _ h0 fun z => nomatch z
          have w1 := hb.w1
          have w2 := hb.w2
          walk_at "go"
          refine r_getS h01 rv_w ?_
          walk_at "go"
          refine ⟨vm, vh, F0.w.toNat, some pr, _, by rw [Int.toNat_of_nonneg (by omega)], hm2.x0 e1, ah, by omega, iman, hgt_in ilev, fun u H3 e3 a3 => ?_⟩
          exact k u H3 (e2.trans (e1.trans e3)) a3
      | eg =>
        have hd' : F0.d = "eager" := hk
        rw [hd'] at h0 ⊢
        refine r_false (decide_eq_false (by decide +kernel)) ?_
        walk_at "run"
        refine r_getS h0 rv_kind ?_
        walk_at "run"
        refine r_getS h0 rv_door ?_
        exact k _ _ e2 h7
      | pr =>
        have hd' : F0.d = "probe" := hk
        rw [hd'] at h0 ⊢
        obtain ⟨t, vlo, vhi, vr, rfl, ht, alo, ahi, art⟩ := id hst2
        refine r_false (decide_eq_false (by decide +kernel)) ?_
        walk_at "run"
        refine r_getS h0 rv_kind ?_
        walk_at "run"
        refine r_getS h0 rv_kind ?_
        walk_at "run"
        refine r_getS hd22 sd_state ?_
        walk_at "run"
        exact k _ _ e2 art
      | wi =>
        have hd' : F0.d = "window" := hk
        rw [hd'] at h0 ⊢
        obtain ⟨qz, hzq⟩ := hkz
        have hz := h4
        rw [hzq] at hz
        have iz : In X M qz := by have := hb.iz; rw [hzq] at this; exact this
        refine r_false (decide_eq_false (by decide +kernel)) ?_
        walk_at "run"
        refine r_getS h0 rv_kind ?_
        walk_at "run"
        refine r_getS h0 rv_kind ?_
        walk_at "run"
        refine ⟨hd, rfl, .inr ⟨_, .inl hhd2⟩, ?_⟩
        walk_at "run"
        refine r_getS h0 rv_name ?_
        walk_at "run"
        refine r_getS h0 rv_name ?_
        walk_at "run"
        refine r_getS h0 rv_name ?_
        walk_at "run"
        rename_i tk htk td htd
        have e4 : Ext [] H2 (upd (upd H2 tk (.tup [.str "came", .str F0.n, .str F0.n, .str F0.n])) td (.tup [.int 0, .int 1])) := (Ext.refl.new htk).new htd
        have ntk : tk ≠ td := fun z => by rw [← z, upd_same] at htd; cases htd
        refine ⟨valV kvs (cmK F0.n), .inr ⟨_, cmK F0.n, tk, .inl (e4 _ _ hhd2 fun z => nomatch z), rfl, by rw [upd_ne ntk]; exact upd_same, rfl⟩, ?_⟩
        have hav : Am K (upd (upd H2 tk (.tup [.str "came", .str F0.n, .str F0.n, .str F0.n])) td (.tup [.int 0, .int 1])) ((valV kvs (cmK F0.n)).getD (.ref td)) came := by
          rcases (hh2.x0 e4).cm with ⟨g1, g2⟩ | ⟨v, g1, g2⟩
          · rw [g1, g2]
            exact ⟨td, rfl, tupS⟩
          · rw [g1]
            exact g2
        have h04 := e4 _ _ h0 fun z => nomatch z
        walk_at "run"
        refine r_getS h04 rv_door ?_
        walk_at "run"
        refine r_getS h04 rv_size ?_
        walk_at "run"
        have ib : In X (2 * M) (qz + came) := by have := iz.add hb.ic; rwa [← Nat.two_mul] at this
        have zb : Sz 4000 (qz + came) := szG ib hb.X0 hb.X4 M4
        refine k_two (hz.1.x0 e4) hav (z4 iz) (z4 hb.ic) iz.nn hb.ic.nn trivial fun v5 H5 e5 a5 => ?_
        walk_at "run"
        refine r_getS (e5 _ _ (e4 _ _ hd22 fun z => nomatch z) fun z => nomatch z) sd_total ?_
        walk_at "run"
        have E5 := e4.trans e5
        refine k_two a5 (hvt2.x0 E5) zb (z4 hb.it) ib.nn hb.it.nn trivial fun v6 H6 e6 a6 => ?_
        have ir : In X (2 * M) (restQ (qz + came) tot) := by
          unfold restQ
          split
          · exact In.zero
          · rename_i hn
            exact ib.sub hb.it (Rat.le_of_lt (Rat.not_le.mp hn))
        walk_at "run"
        have E6 := E5.trans e6
        refine k_two (h7.x0 E6) a6 (z4 hb.ig) (szG ir hb.X0 hb.X4 M4) hb.ig.nn ir.nn trivial fun v7 H7 e7 a7 => ?_
        refine k v7 H7 (e2.trans (E6.trans e7)) ?_
        show Am K H7 v7 (if (some pr).isNone = true then 0 else lmin F0.g (restQ (zq F0.z + came) tot))
        rw [if_neg (by simp), hzq]
        exact a7
end
end Yk

set_option maxHeartbeats 16000000
namespace Yk
open PySem PySem.Spec PyProof.Rows L2

local macro_rules | `(tactic| walk_at "st") => `(tactic| first
  | with_reducible refine' r_tAt ?_
  | ((with_reducible refine' r_fld ?h1 ?h2 ?h3); (case h1 => first | assumption | exact upd_same); (case h2 => first | walk_at "lk" | rfl))
  | with_reducible refine' r_sAt ?_
  | ((with_reducible refine' r_putU ?h1 ?h2); (case h1 => (repeat refine putF_lt ?_); decide))
  | ((with_reducible refine' r_put ?h1 ?h2 ?h3); (case h1 => first | assumption | exact upd_same); (case h2 => (repeat refine putF_lt ?_); decide))
  | with_reducible refine' r_tMt ?_
  | ((with_reducible refine' r_met ?h1 ?h2 ?h3); (case h1 => first | assumption | exact upd_same); (case h2 => first | walk_at "lk" | rfl))
  | with_reducible refine' r_tCr ?_
  | with_reducible refine' r_tCrK ?_
  | with_reducible refine' r_chain ?_)
local macro_rules | `(tactic| walk_at "st") => `(tactic| first
  | with_reducible refine' r_dget ?_
  | with_reducible refine' r_dc ?_
  | with_reducible refine' r_iVals ?_
  | with_reducible refine' r_dnotin ?_
  | with_reducible refine' r_din ?_
  | with_reducible refine' r_iItems ?_
  | with_reducible refine' r_iKeysT ?_
  | with_reducible refine' r_tget1 ?_
  | with_reducible refine' r_tget2 ?_
  | with_reducible refine' r_dput ?_
  | with_reducible refine' r_tPr ?_
  | ((with_reducible refine' r_prp2 ?h1 ?h2); (case h1 => first | assumption | exact upd_same))
  | with_reducible refine' r_par3 ?_
  | ((with_reducible refine' r_dnT ?_); (intro np hnp))
  | ((with_reducible refine' r_dnK ?_); (intro np hnp)))
local macro_rules | `(tactic| walk_at "st") => `(tactic| first
  | with_reducible refine' r_tAtU ?_
  | ((with_reducible refine' r_fldU ?h0 ?h1 ?h2 ?h3); (case h1 => first | assumption | exact upd_same); (case h0 => first | assumption | walk_at "mem"); (case h2 => first | walk_at "lk" | rfl))
  | with_reducible refine' r_sAtU ?_
  | ((with_reducible refine' r_putUV ?h0 ?h2 ?h3); (case h0 => first | assumption | walk_at "mem"); (case h2 => (repeat refine putF_lt ?_); decide))
  | ((with_reducible refine' r_putUU ?h0 ?h1 ?h2 ?h3); (case h1 => first | assumption | exact upd_same); (case h0 => first | assumption | walk_at "mem"); (case h2 => (repeat refine putF_lt ?_); decide))
  | with_reducible refine' r_tMtU ?_
  | ((with_reducible refine' r_metU ?h0 ?h1 ?h2 ?h3); (case h1 => first | assumption | exact upd_same); (case h0 => first | assumption | walk_at "mem"); (case h2 => first | walk_at "lk" | rfl)))
local macro_rules | `(tactic| walk_at "mem") => `(tactic| (simp only [List.mem_cons, Prod.mk.injEq, List.not_mem_nil, or_false, true_and, and_true, true_or, or_true, reduceCtorEq, and_false, false_or]))
/-! What the law lets a sender hear. -/
def GoodKV (K : PySem.W.Frag) (H : Hp) (n : Str) (rs : List Str) (X M : Nat) (kk : List Key) (v : V) : Prop :=
  (∃ r ∈ rs, kk = lvK n r ∧ ∃ q, Am K H v q ∧ In 30 1000 q) ∨ (∃ r ∈ rs, kk = bitK n r ∧ ∃ x, v = .bl x) ∨ (∃ r ∈ rs, kk = rmK n r ∧ ∃ q, Am K H v q) ∨ (kk = cmK n ∧ ∃ q, Am K H v q ∧ In X M q)
def PairAt (K : PySem.W.Frag) (H : Hp) (n : Str) (rs : List Str) (X M : Nat) (x : V) : Prop := ∃ a t kk v, x = .ref a ∧ H a = some (.tup [.ref t, v]) ∧ H t = some (.tup (kk.map kV)) ∧ GoodKV K H n rs X M kk v
section
variable {K : PySem.W.Frag} {H H1 : Hp} {n : Str} {rs : List Str} {X M : Nat} {kk : List Key} {v x : V}
theorem GoodKV.f {S : List Addr} (h : GoodKV K H n rs X M kk v) (e : Ext S H H1) (ns : NoTup H S) : GoodKV K H1 n rs X M kk v := by
  rcases h with ⟨r, h1, h2, q, h3, h4⟩ | ⟨r, h1, h2, h3⟩ | ⟨r, h1, h2, q, h3⟩ | ⟨h2, q, h3, h4⟩
  · exact .inl ⟨r, h1, h2, q, h3.f e ns, h4⟩
  · exact .inr (.inl ⟨r, h1, h2, h3⟩)
  · exact .inr (.inr (.inl ⟨r, h1, h2, q, h3.f e ns⟩))
  · exact .inr (.inr (.inr ⟨h2, q, h3.f e ns, h4⟩))
theorem PairAt.f {S : List Addr} (h : PairAt K H n rs X M x) (e : Ext S H H1) (ns : NoTup H S) : PairAt K H1 n rs X M x := by
  obtain ⟨a, t, kk, v, rfl, h1, h2, h3⟩ := h
  exact ⟨a, t, kk, v, rfl, tupR e h1 ns, tupR e h2 ns, h3.f e ns⟩
theorem PairAt.x0 (h : PairAt K H n rs X M x) (e : Ext [] H H1) : PairAt K H1 n rs X M x := h.f e fun _ z => nomatch z
/-- the first letter of a key -/
theorem GoodKV.hd (h : GoodKV K H n rs X M kk v) : ∃ s1 s2 s3 s4 : Str, kk = [.inr s1, .inr s2, .inr s3, .inr s4] ∧ (∀ s ∈ [s1, s2, s3, s4], s = n ∨ s ∈ rs ∨ s = "" ∨ s = "level" ∨ s = "bit" ∨ s = "room" ∨ s = "came") := by
  rcases h with ⟨r, h1, h2, q, h3, h4⟩ | ⟨r, h1, h2, h3⟩ | ⟨r, h1, h2, q, h3⟩ | ⟨h2, q, h3, h4⟩
  · exact ⟨_, _, _, _, h2, by simp [h1]⟩
  · exact ⟨_, _, _, _, h2, by simp [h1]⟩
  · exact ⟨_, _, _, _, h2, by simp [h1]⟩
  · exact ⟨_, _, _, _, h2, by simp⟩
theorem GoodKV.data (h : GoodKV K H n rs X M kk v) : ∃ d, Dp K H v d ∧ d.canLay0 = true ∧ d.depth ≤ 2 := by
  have ha : ∀ {q : Rat}, Am K H v q → ∃ d, Dp K H v d ∧ d.canLay0 = true ∧ d.depth ≤ 2 := fun {q} h => ⟨_, dp_am h, by rfl, by show PyData.depth (.tuple [.int q.num, .int (q.den : Int)]) ≤ 2; simp [PyData.depth, PyData.depthAll]⟩
  rcases h with ⟨r, h1, h2, q, h3, h4⟩ | ⟨r, h1, h2, x, rfl⟩ | ⟨r, h1, h2, q, h3⟩ | ⟨h2, q, h3, h4⟩
  · exact ha h3
  · exact ⟨_, .bl x, rfl, by simp [PyData.depth]⟩
  · exact ha h3
  · exact ha h3
end
theorem nameOk {s : Str} (h : nameB s = true) : PyData.strOk s = true := by
  unfold nameB at h
  simp only [Bool.and_eq_true] at h
  have h1 := h.1.1.2
  unfold Txt.isascii at h1
  unfold PyData.strOk
  rw [Array.all_eq_true] at *
  intro i hi
  have := h1 i hi
  simp only [decide_eq_true_eq] at *
  omega
theorem pairs_data {K : PySem.W.Frag} {H : Hp} {n : Str} {rs : List Str} {X M : Nat} (hn : PyData.strOk n = true) (hr : ∀ r ∈ rs, PyData.strOk r = true) : ∀ {xs : List V}, (∀ x ∈ xs, PairAt K H n rs X M x) → ∃ ds, DpAll K H xs ds ∧ PyData.canLayAll0 ds = true ∧ PyData.depthAll ds ≤ 3 ∧ ds.length = xs.length
  | [], _ => ⟨[], .nil, rfl, by simp [PyData.depthAll], rfl⟩
  | x :: xs, h => by
    obtain ⟨ds, g1, g2, g3, g4⟩ := pairs_data hn hr (xs := xs) fun y hy => h y (List.mem_cons_of_mem _ hy)
    obtain ⟨a, t, kk, v, rfl, h1, h2, h3⟩ := h x List.mem_cons_self
    obtain ⟨s1, s2, s3, s4, rfl, hs⟩ := h3.hd
    obtain ⟨d, d1, d2, d3⟩ := h3.data
    have ok : ∀ s ∈ [s1, s2, s3, s4], PyData.strOk s = true := fun s hs' => by
      rcases hs s hs' with rfl | q | rfl | rfl | rfl | rfl | rfl
      · exact hn
      · exact hr s q
      all_goals decide +kernel
    have o1 := ok s1 (by simp)
    have o2 := ok s2 (by simp)
    have o3 := ok s3 (by simp)
    have o4 := ok s4 (by simp)
    refine ⟨.tuple [.tuple [.str s1, .str s2, .str s3, .str s4], d] :: ds, .cons (.tup (.inl (.inl h1)) (.cons (.tup (.inl (.inl h2)) (.cons (.str _) (.cons (.str _) (.cons (.str _) (.cons (.str _) .nil))))) (.cons d1 .nil))) g1, ?_, ?_, by simp [g4]⟩
    · simp [PyData.canLayAll0, PyData.canLay0, o1, o2, o3, o4, d2, g2]
    · simp only [PyData.depthAll, PyData.depth]
      omega
structure HS (K : PySem.W.Frag) (H0 H : Hp) (b : Bag) (d l : Addr) (F : FlowD) (vt : V) (tot : Rat) (X M : Nat) (xs : List V) : Prop where
  b0 : BagAt K H0 b
  r0 : FRowAt K H0 b d F
  t0 : Am K H0 vt tot
  bag : BagAt K H b
  lst : H l = some (.lst xs)
  nl : b.a ≠ l
  all : ∀ x ∈ xs, PairAt K H F.n F.rs X M x
  ext : Ext [b.a] H0 H
  fr : H0 l = none
section
variable {K : PySem.W.Frag} {H0 H H1 : Hp} {b : Bag} {d l : Addr} {F : FlowD} {vt : V} {tot : Rat} {X M : Nat} {xs ys : List V}
theorem HS.x0 (h : HS K H0 H b d l F vt tot X M xs) (e : Ext [] H H1) : HS K H0 H1 b d l F vt tot X M xs := ⟨h.b0, h.r0, h.t0, h.bag.x0 e, e _ _ h.lst (fun z => nomatch z), h.nl, fun x hx => (h.all x hx).x0 e, h.ext.trans e.of0, h.fr⟩
theorem HS.bg (h : HS K H0 H b d l F vt tot X M xs) (b1 : BagAt K H1 b) (e : Ext [b.a] H H1) : HS K H0 H1 b d l F vt tot X M xs := by
  obtain ⟨lb, hlb⟩ := h.bag.lst
  exact ⟨h.b0, h.r0, h.t0, b1, e _ _ h.lst (fun z => h.nl (List.mem_singleton.mp z).symm), h.nl, fun x hx => (h.all x hx).f e (no_lst hlb), h.ext.trans e, h.fr⟩
theorem HS.set (h : HS K H0 H b d l F vt tot X M xs) (hy : ∀ x ∈ ys, x ∈ xs ∨ PairAt K H F.n F.rs X M x) : HS K H0 (upd H l (.lst ys)) b d l F vt tot X M ys := by
  have e : Ext [l] H (upd H l (.lst ys)) := Ext.refl.at_ List.mem_cons_self
  exact ⟨h.b0, h.r0, h.t0, h.b0.own h.fr h.bag, upd_same, h.nl, fun x hx => ((hy x hx).elim (h.all x) id).f e (no_lst h.lst), h.ext.own h.fr, h.fr⟩
theorem HS.row (h : HS K H0 H b d l F vt tot X M xs) : FRowAt K H b d F := h.r0.bg h.b0 h.ext
theorem HS.am (h : HS K H0 H b d l F vt tot X M xs) : Am K H vt tot := h.t0.b h.b0 h.ext
end
section
variable {P : Program} {w : World} {K : PySem.W.Frag} {mg : Str → Option Value} {base : Heap} {f : Addr} {fd : FuncData}
def spHears (K : PySem.W.Frag) : Sp := fun vs H Q _ => ∃ (b : Bag) (d : Addr) (F : FlowD) (vt : V) (tot : Rat) (X M : Nat), vs = [.ref b.a, .ref d, vt] ∧ BagAt K H b ∧ FRowAt K H b d F ∧ FRowOk F ∧ Am K H vt tot ∧ In X M tot ∧ 0 < X ∧ X ≤ 2 ^ 380 ∧ M ≤ 2 ^ 380 ∧
  ∀ p ys H', (∀ x ∈ ys, PairAt K H' F.n F.rs (X * 30) M x) → ys.length ≤ 16 → H p = none → H' p = some (.lst ys) → BagAt K H' b → Ext [b.a] H H' → Q (.ref p) H'
abbrev s_law_hears : Stmt := top 74
theorem c_law_hears : FnScope ["_law_bag_here", "_law_row", "_law_sent_of", "_law_name_here", "_law_found", "_law_k", "_law_one", "_law_menu", "_law_without", "_law_pair"] ["_law_bag_here", "_law_row", "_law_sent_of"] (defScope s_law_hears) := ⟨rfl, rfl, rfl, by decide +kernel, rfl, by decide +kernel, by decide +kernel⟩
theorem f_law_hears (F : FunD K "_law_hears" "_law_hears" (defArgs s_law_hears) (defBody s_law_hears) (defScope s_law_hears) [] [] f fd) (hm : mg "_law_hears" = some (.ref f)) (T : Bt mg) (F_law_draw : Fn P w K mg base 1 "_law_draw" (spDraw K)) (F_law_of : Fn P w K mg base 2 "_law_of" (spOf K)) (F_law_mixed : Fn P w K mg base 2 "_law_mixed" (spMixed K)) (G_law_some : Fn P w K mg base 3 "_law_some" (spSome5 K)) (F_law_part : Fn P w K mg base 3 "_law_part" (spPart K)) (F_law_min : Fn P w K mg base 2 "_law_min" (sp2 (fun _ _ => True) lmin K)) : Fn P w K mg base 4 "_law_hears" (spHears K) := by
  refine fn_def F hm c_law_hears (fun vs H Q E h => ?_) (fun _ _ _ _ _ _ us hl => match us, hl with | [_, _, _], _ => rfl) (fun cdv A outer s H vs Q E hr h => ?_)
  · obtain ⟨b, d, F, vt, tot, X, M, rfl, _⟩ := h
    rfl
  · obtain ⟨b, d, F0, vt, tot, X, M, rfl, hb, hrow, ok, hvt, it, X0, X4, M4, k⟩ := h
    have nd := c_law_hears.nd
    refine ⟨_, (pss_cons (ps_par (i := 3) (j := 4) (by rfl) nd rfl rfl (by decide) rfl rfl (pa_cons (pe_dget (hu_of hr) (pv 1) pe_str (fun _ _ => rfl)) (pa_cons (pe_lst pa_nil) pa_nil)) (by rfl))
      (pss_cons (ps_for PassesOwn.never rfl (pi_range1 rfl T.range (pa_cons (pe_callB cr_len (by rfl) T.len (by decide +kernel) (pa_cons (pe_dget (hu_of hr) (pv 1) pe_str (fun _ _ => rfl)) pa_nil)) pa_nil)) (pg_name (i := 5) nd rfl (by first | exact Or.inl rfl | exact Or.inr rfl))
        (pss_cons (ps_set (i := 6) nd rfl (by first | exact Or.inl rfl | exact Or.inr rfl) (pe_ix ix_list (pe_dget (hu_of hr) (pv 1) pe_str (fun _ _ => rfl)) (pv 5) (fun _ _ => rfl)))
        (pss_mid (ps_if (pt_cmpR op_eq (pe_dget (hu_of hr) (pv 1) pe_str (fun _ _ => rfl)) pe_str (nomark _))
          (pss_cons (ps_set (i := 7) nd rfl (by first | exact Or.inl rfl | exact Or.inr rfl) (pe_lst (pa_cons (pe_fn G_law_some (hr.mono (by decide)) (pa_cons (pv 0) (pa_cons pe_int pa_nil))) (pa_cons (pe_tup (pa_cons pe_int (pa_cons pe_int pa_nil))) (pa_cons (pe_fn G_law_some (hr.mono (by decide)) (pa_cons (pv 0) (pa_cons pe_int pa_nil))) (pa_cons (pe_tup (pa_cons pe_int (pa_cons pe_int pa_nil))) pa_nil))))))
          (pss_one (ps_expr (pe_bm PySem.F.plainAttrs_list PySem.F.slot_list_append PySem.F.type_list_append mt_append (pv 4) (pa_cons (pe_tup (pa_cons (pe_tup (pa_cons pe_str (pa_cons (pv 6) (pa_cons (pv 3) (pa_cons pe_str pa_nil))))) (pa_cons (pe_fn F_law_of (hr.mono (by decide)) (pa_cons (pv 0) (pa_cons (pv 7) pa_nil))) pa_nil))) pa_nil)))))
          pss_nil)
        (pss_mid (ps_if (pt_cmpR op_eq (pe_dget (hu_of hr) (pv 1) pe_str (fun _ _ => rfl)) pe_str (nomark _))
          (pss_one (ps_expr (pe_bm PySem.F.plainAttrs_list PySem.F.slot_list_append PySem.F.type_list_append mt_append (pv 4) (pa_cons (pe_tup (pa_cons (pe_tup (pa_cons pe_str (pa_cons (pv 6) (pa_cons (pv 3) (pa_cons (pv 3) pa_nil))))) (pa_cons (pe_cmpR op_gt (pe_fn F_law_draw (hr.mono (by decide)) (pa_cons (pv 0) (pa_cons pe_int pa_nil))) pe_int (nomark _)) pa_nil))) pa_nil))))
          pss_nil)
        (pss_one (ps_if (PW.pt (pw_and (pt_cmpR op_ne (pe_dget (hu_of hr) (pv 1) pe_str (fun _ _ => rfl)) pe_str (nomark _)) (pw_and1 (pt_cmpR op_eq (pv 5) pe_int (nomark _)))))
          (pss_one (ps_expr (pe_bm PySem.F.plainAttrs_list PySem.F.slot_list_append PySem.F.type_list_append mt_append (pv 4) (pa_cons (pe_tup (pa_cons (pe_tup (pa_cons pe_str (pa_cons (pv 6) (pa_cons (pv 3) (pa_cons (pv 3) pa_nil))))) (pa_cons (pe_fn F_law_min (hr.mono (by decide)) (pa_cons (pe_fn G_law_some (hr.mono (by decide)) (pa_cons (pv 0) (pa_cons pe_int pa_nil))) (pa_cons (pe_ix ix_list (pe_dget (hu_of hr) (pv 1) pe_str (fun _ _ => rfl)) pe_int (fun _ _ => rfl)) pa_nil))) pa_nil))) pa_nil))))
          pss_nil))))))
      (pss_mid (ps_if (pt_cmpR op_eq (pe_dget (hu_of hr) (pv 1) pe_str (fun _ _ => rfl)) pe_str (nomark _))
        (pss_one (ps_expr (pe_bm PySem.F.plainAttrs_list PySem.F.slot_list_append PySem.F.type_list_append mt_append (pv 4) (pa_cons (pe_tup (pa_cons (pe_tup (pa_cons pe_str (pa_cons (pv 3) (pa_cons (pv 3) (pa_cons (pv 3) pa_nil))))) (pa_cons (pe_fn F_law_part (hr.mono (by decide)) (pa_cons (pv 0) (pa_cons (pv 2) pa_nil))) pa_nil))) pa_nil))))
        pss_nil)
      (pss_cons (ps_set (i := 8) nd rfl (by first | exact Or.inl rfl | exact Or.inr rfl) (pe_fn F_law_of (hr.mono (by decide)) (pa_cons (pv 0) (pa_cons (pe_lst (pa_cons pe_str (pa_cons pe_str (pa_cons pe_str (pa_cons pe_str (pa_cons pe_str (pa_cons pe_str pa_nil))))))) pa_nil))))
      (pss_cons (ps_setLc (i := 4) (own := [("_law_pair", 9)]) (g := gName 9) rfl nd rfl rfl (sw_true rfl rfl rfl (by decide +kernel)) (pi_list (pv 4)) (blkOk_by (N := ["_law_bag_here", "_law_row", "_law_sent_of", "_law_name_here", "_law_found", "_law_k", "_law_one", "_law_menu", "_law_without", "_law_pair"]) (sc := defScope s_law_hears) (by decide +kernel)) (fun _ _ _ _ _ => pg_name (i := 9) nd rfl (Or.inl rfl)) (fun _ _ _ _ _ => (pts_one (pt_cmpR op_ne (pe_ix ix_tup (pe_ix ix_tup (pv 9) pe_int (fun _ _ => rfl) : PE _ _ (tOp (rIxT K) _ _)) pe_int (fun _ _ => rfl) : PE _ _ (tOp (rIxT K) _ _)) (pv 8) (nomark _)))) (fun _ _ _ _ _ => (pv 9)))
      (pss_mid (ps_if (PW.pt (pw_and (pt_cmpR (op_neD hr.units) (pv 4) (pe_lst pa_nil) (nomark _)) (pw_and1 (pt_cmpR op_eq (pe_fn F_law_draw (hr.mono (by decide)) (pa_cons (pv 0) (pa_cons pe_int pa_nil))) pe_int (nomark _)))))
        (pss_one (ps_expr (pe_bm PySem.F.plainAttrs_list PySem.F.slot_list_pop PySem.F.type_list_pop mt_popAt (pv 4) (pa_cons (pe_fn F_law_draw (hr.mono (by decide)) (pa_cons (pv 0) (pa_cons (pe_callB cr_len (by rfl) T.len (by decide +kernel) (pa_cons (pv 4) pa_nil)) pa_nil))) pa_nil))))
        pss_nil)
      (pss_one (ps_ret (pe_fn F_law_mixed (hr.mono (by decide)) (pa_cons (pv 0) (pa_cons (pv 4) pa_nil))))))))))), ?_⟩
    show (_ : TS) _ [some _, some _, some _, none, none, none, none, none, none, none] _
    try dsimp only [cxOf, Cx.nox]
    have p38 : (2 : Nat) ^ 380 ≤ 2 ^ 400 := Nat.pow_le_pow_right (by decide) (by decide)
    have zt : Sz 4000 tot := szG it X0 (Nat.le_trans X4 p38) (Nat.le_trans M4 p38)
    have r5 := ok.ok.rt.l5
    have r1 := ok.ok.rt.l1
    have row : ∀ {H' : Hp}, FRowAt K H' b d F0 → ∃ ra ba xs vz vg vG vD vm, H' d = some (.dK (RowFs F0.n (.ref ra) F0.d F0.w F0.y vg vG vD vm F0.b vz (.ref ba))) ∧ SqL K H' ra (F0.rs.map V.str) ∧ SqL K H' ba xs ∧ b.a ≠ ra ∧ Ams K H' xs F0.bs := fun h => by
      obtain ⟨ra, ba, xs, vz, vg, vG, vD, vm, h0, h1, h2, n1, n2, h3, _⟩ := h
      exact ⟨ra, ba, xs, vz, vg, vG, vD, vm, h0, h1, h2, n1, h3⟩
    obtain ⟨ra, ba, xs0, vz, vg, vG, vD, vm, h0, h1, h2, n1, h3⟩ := row hrow
    walk_at "go"
    refine r_getS h0 rv_name ?_
    walk_at "go"
    rename_i l hl
    have e0 : Ext [] H (upd H l (.lst [])) := Ext.refl.new hl
    have S0 : HS K H (upd H l (.lst [])) b d l F0 vt tot (X * 30) M [] := ⟨hb, hrow, hvt, hb.x0 e0, upd_same, hb.ne hl, (fun _ z => nomatch z), e0.of0, hl⟩
    generalize upd H l (.lst []) = H1 at *
    clear h0 h1 h2 h3
    obtain ⟨ra, ba, xs0, vz, vg, vG, vD, vm, h0, h1, h2, n1, h3⟩ := row S0.row
    walk_at "go"
    refine r_for ?_
    walk_at "go"
    refine r_getS h0 rv_route ?_
    walk_at "go"
    rw [List.length_map]
    refine ⟨_, rfl, Int.le_trans (by decide) (Int.natCast_nonneg _), Int.lt_of_le_of_lt (by omega : (F0.rs.length : Int) ≤ 5) (by decide), ?_⟩
    rw [Int.toNat_natCast]
    refine r_loopR (fun i σ H' => ∃ xs u5 u6 u7, σ = [some (V.ref b.a), some (V.ref d), some vt, some (V.str F0.n), some (V.ref l), u5, u6, u7, none, none] ∧ HS K H H' b d l F0 vt tot (X * 30) M xs ∧ xs.length ≤ 3 * i) ⟨[], _, _, _, rfl, S0, Nat.le_refl _⟩ ?_ ?_
    · clear h0 h1 h2 h3 S0
      rintro i σ H2 hi ⟨xs, u5, u6, u7, rfl, S, hx⟩
      obtain ⟨ra, ba, xs0, vz, vg, vG, vD, vm, h0, h1, h2, n1, h3⟩ := row S.row
      have hr : F0.rs[i]? = some F0.rs[i] := List.getElem?_eq_getElem hi
      generalize F0.rs[i] = r at hr
      have hrm := List.mem_of_getElem? hr
      walk_at "go"
      refine r_getS h0 rv_route ?_
      walk_at "go"
      refine r_ixL h1 (at_n (n := i) (by omega) (by rw [List.getElem?_map, hr]; rfl)) ?_
      walk_at "go"
      refine r_mid (fun σ' H' => ∃ xs u7, σ' = [some (V.ref b.a), some (V.ref d), some vt, some (V.str F0.n), some (V.ref l), some (V.int (0 + (i : Int))), some (V.str r), u7, none, none] ∧ HS K H H' b d l F0 vt tot (X * 30) M xs ∧ xs.length ≤ 3 * i + 1) ?_ ?_
      · walk_at "go"
        refine r_getS h0 rv_kind ?_
        walk_at "go"
        refine r_dec (fun _ => ?_) (fun _ => ?_)
        · walk_at "go"
          refine k_some5 (M := 9) rfl S.bag (by decide) fun v1 q1 H3 a1 i1 d1 b3 n3 => ?_
          have S1 := S.bg b3 n3
          walk_at "go"
          rename_i p2 hp2
          have e3 : Ext [] H3 (upd H3 p2 (.tup [.int 1000, .int 1])) := Ext.refl.new hp2
          have S2 := S1.x0 e3
          refine k_some5 (M := 2) rfl S2.bag (by decide) fun v3 q3 H4 a3 i3 d3 b4 n4 => ?_
          have S3 := S2.bg b4 n4
          have a1' := (a1.x0 e3).b S2.bag n4
          have a2' : Am K H4 (.ref p2) 1000 := (Am.b S2.bag n4 ⟨p2, rfl, tupS⟩)
          walk_at "go"
          rename_i p4 hp4 pm hpm
          generalize hG : upd _ pm _ = H5
          have e5 : Ext [] H4 H5 := by rw [← hG]; walk_at "ext"
          have S4 := S3.x0 e5
          have hmenu : SqL K H5 pm [v1, .ref p2, v3, .ref p4] := by rw [← hG]; exact lstS
          have hams : Ams K H5 [v1, .ref p2, v3, .ref p4] [q1, 1000, q3, 0] := Ams.cons (a1'.x0 e5) (Ams.cons (a2'.x0 e5) (Ams.cons (a3.x0 e5) (Ams.cons ⟨p4, rfl, by rw [← hG]; show SqT K _ p4 [.int 0, .int 1]; walk_at "sq"⟩ Ams.nil)))
          have him : ∀ q ∈ [q1, 1000, q3, (0 : Rat)], In 30 1000 q := fun q hq => by
            simp only [List.mem_cons, List.not_mem_nil, or_false] at hq
            rcases hq with rfl | rfl | rfl | rfl
            · exact i1.most (by decide)
            · exact In.nat (n := 1000) (by decide)
            · exact i3.most (by decide)
            · exact In.zero
          have npm : b.a ≠ pm := BagAt.ne (S3.bag.x0 (by walk_at "ext")) hpm
          walk_at "go"
          refine ⟨.inl ⟨rfl, _, .inl (.inl S4.lst)⟩, ?_⟩
          walk_at "go"
          rename_i tk htk
          have e6 : Ext [] H5 (upd H5 tk (.tup [.str "level", .str r, .str F0.n, .str ""])) := Ext.refl.new htk
          have S5 := S4.x0 e6
          refine of_am S5.bag (lst0 e6 hmenu) npm (hams.x0 e6) (show 0 < 4 by decide) (show 4 ≤ 4000 by decide) fun v q H6 hq av b6 n6 => ?_
          have S6 := S5.bg b6 n6
          obtain ⟨lb, hlb⟩ := S5.bag.lst
          have htk6 : H6 tk = some (.tup [.str "level", .str r, .str F0.n, .str ""]) := tupR n6 upd_same (no_lst hlb)
          walk_at "go"
          rename_i pp hpp
          have e7 : Ext [] H6 (upd H6 pp (.tup [.ref tk, v])) := Ext.refl.new hpp
          have S7 := S6.x0 e7
          refine r_app S7.lst (by omega) ?_
          refine ⟨xs ++ [.ref pp], _, rfl, S7.set fun x hx => ?_, by rw [List.length_append, List.length_singleton]; omega⟩
          rcases List.mem_append.mp hx with hx | hx
          · exact .inl hx
          · rw [List.mem_singleton.mp hx]
            exact .inr ⟨pp, tk, lvK F0.n r, v, rfl, upd_same, e7 _ _ htk6 (fun z => nomatch z), .inl ⟨r, hrm, rfl, q, av.x0 e7, him q hq⟩⟩
        · walk_at "go"
          exact ⟨xs, _, rfl, S, by omega⟩
      · clear S h0 h1 h2 h3 hx
        rintro σ H3 ⟨xs, u7, rfl, S, hx⟩
        obtain ⟨ra, ba, xs0, vz, vg, vG, vD, vm, h0, h1, h2, n1, h3⟩ := row S.row
        walk_at "go"
        refine r_mid (fun σ' H' => ∃ xs u7, σ' = [some (V.ref b.a), some (V.ref d), some vt, some (V.str F0.n), some (V.ref l), some (V.int (0 + (i : Int))), some (V.str r), u7, none, none] ∧ HS K H H' b d l F0 vt tot (X * 30) M xs ∧ xs.length ≤ 3 * i + 2) ?_ ?_
        · walk_at "go"
          refine r_getS h0 rv_kind ?_
          walk_at "go"
          refine r_dec (fun _ => ?_) (fun _ => ?_)
          · walk_at "go"
            refine ⟨.inl ⟨rfl, _, .inl (.inl S.lst)⟩, ?_⟩
            walk_at "go"
            rename_i tk htk
            have e6 : Ext [] H3 (upd H3 tk (.tup [.str "bit", .str r, .str F0.n, .str F0.n])) := Ext.refl.new htk
            have S5 := S.x0 e6
            refine k_draw S5.bag (by omega) (by decide) fun y H6 y0 y1 b6 n6 => ?_
            have S6 := S5.bg b6 n6
            obtain ⟨lb, hlb⟩ := S5.bag.lst
            have htk6 : H6 tk = some (.tup [.str "bit", .str r, .str F0.n, .str F0.n]) := tupR n6 upd_same (no_lst hlb)
            walk_at "go"
            rename_i pp hpp
            have e7 : Ext [] H6 (upd H6 pp (.tup [.ref tk, .bl (decide (0 < y))])) := Ext.refl.new hpp
            have S7 := S6.x0 e7
            refine r_app S7.lst (by omega) ?_
            refine ⟨xs ++ [.ref pp], _, rfl, S7.set fun x hx => ?_, by rw [List.length_append, List.length_singleton]; omega⟩
            rcases List.mem_append.mp hx with hx | hx
            · exact .inl hx
            · rw [List.mem_singleton.mp hx]
              exact .inr ⟨pp, tk, bitK F0.n r, _, rfl, upd_same, e7 _ _ htk6 (fun z => nomatch z), .inr (.inl ⟨r, hrm, rfl, _, rfl⟩)⟩
          · walk_at "go"
            exact ⟨xs, _, rfl, S, by omega⟩
        · clear S h0 h1 h2 h3 hx
          rintro σ H4 ⟨xs, u7, rfl, S, hx⟩
          obtain ⟨ra, ba, xs0, vz, vg, vG, vD, vm, h0, h1, h2, n1, h3⟩ := row S.row
          have hbl : F0.bs.length = F0.rs.length := ok.ok.bl
          have hbq : F0.bs[0]? = some (F0.bs[0]'(by omega)) := List.getElem?_eq_getElem _
          obtain ⟨vb, hvb, avb⟩ : ∃ v, xs0[0]? = some v ∧ Am K H4 v (F0.bs[0]'(by omega)) := by
            have : 0 < xs0.length := by rw [h3.1]; omega
            exact ⟨_, List.getElem?_eq_getElem this, h3.2 0 _ _ (List.getElem?_eq_getElem this) hbq⟩
          have hbz := ok.ok.bf _ (List.mem_of_getElem? hbq)
          generalize F0.bs[0] = qb at *
          walk_at "go"
          refine r_getS h0 rv_kind ?_
          walk_at "go"
          refine r_ndec (fun _ => ?_) (fun _ => ?_)
          · walk_at "go"
            refine r_dec (fun _ => ?_) (fun _ => ?_)
            · walk_at "go"
              refine ⟨.inl ⟨rfl, _, .inl (.inl S.lst)⟩, ?_⟩
              walk_at "go"
              rename_i tk htk
              have e6 : Ext [] H4 (upd H4 tk (.tup [.str "room", .str r, .str F0.n, .str F0.n])) := Ext.refl.new htk
              have S5 := S.x0 e6
              refine k_some5 (M := 9) rfl S5.bag (by decide) fun v1 q1 H6 a1 i1 d1 b6 n6 => ?_
              have S6 := S5.bg b6 n6
              obtain ⟨lb, hlb⟩ := S5.bag.lst
              have htk6 : H6 tk = some (.tup [.str "room", .str r, .str F0.n, .str F0.n]) := tupR n6 upd_same (no_lst hlb)
              have h06 : H6 d = _ := n6 _ _ (e6 _ _ h0 fun z => nomatch z) fun z => bag_ne_dk S5.bag (e6 _ _ h0 fun z => nomatch z) (List.mem_singleton.mp z)
              walk_at "go"
              refine r_getS h06 rv_bufs ?_
              walk_at "go"
              obtain ⟨_, _, _, _, _, _, _, _, g0, g1, g2, _, _⟩ := row S6.row
              rw [h06] at g0
              cases g0
              refine r_ixL (lstX n6 (lst0 e6 h2) (by obtain ⟨_, _, _, _, _, _, _, _, c0, _, _, _, c5, _⟩ := S.row; rw [h0] at c0; cases c0; exact fun z => c5 (List.mem_singleton.mp z).symm)) (at_n (n := 0) rfl hvb) ?_
              walk_at "go"
              refine k_two a1 ((avb.x0 e6).b S5.bag n6) (in30z i1 (Nat.le_trans (by decide) z1000)) hbz.sz i1.nn hbz.n0 trivial fun v H7 e7 av => ?_
              have S7 := S6.x0 e7
              walk_at "go"
              rename_i pp hpp
              have e8 : Ext [] H7 (upd H7 pp (.tup [.ref tk, v])) := Ext.refl.new hpp
              have S8 := S7.x0 e8
              refine r_app S8.lst (by omega) ?_
              refine ⟨xs ++ [.ref pp], _, _, _, rfl, S8.set fun x hx => ?_, by rw [List.length_append, List.length_singleton]; omega⟩
              rcases List.mem_append.mp hx with hx | hx
              · exact .inl hx
              · rw [List.mem_singleton.mp hx]
                exact .inr ⟨pp, tk, rmK F0.n r, v, rfl, upd_same, e8 _ _ (e7 _ _ htk6 fun z => nomatch z) (fun z => nomatch z), .inr (.inr (.inl ⟨r, hrm, rfl, _, av.x0 e8⟩))⟩
            · walk_at "go"
              exact ⟨xs, _, _, _, rfl, S, by omega⟩
          · walk_at "go"
            exact ⟨xs, _, _, _, rfl, S, by omega⟩
    · clear h0 h1 h2 h3 S0
      rintro σ H2 ⟨xs, u5, u6, u7, rfl, S, hx⟩
      obtain ⟨ra, ba, xs0, vz, vg, vG, vD, vm, h0, h1, h2, n1, h3⟩ := row S.row
      walk_at "go"
      refine r_mid (fun σ' H' => ∃ xs, σ' = [some (V.ref b.a), some (V.ref d), some vt, some (V.str F0.n), some (V.ref l), u5, u6, u7, none, none] ∧ HS K H H' b d l F0 vt tot (X * 30) M xs ∧ xs.length ≤ 16) ?_ ?_
      · walk_at "go"
        refine r_getS h0 rv_kind ?_
        walk_at "go"
        refine r_dec (fun _ => ?_) (fun _ => ?_)
        · walk_at "go"
          refine ⟨.inl ⟨rfl, _, .inl (.inl S.lst)⟩, ?_⟩
          walk_at "go"
          rename_i tk htk
          have e6 : Ext [] H2 (upd H2 tk (.tup [.str "came", .str F0.n, .str F0.n, .str F0.n])) := Ext.refl.new htk
          have S5 := S.x0 e6
          refine k_part S5.bag S5.am it.nn zt fun v q H6 av pq b6 n6 => ?_
          have S6 := S5.bg b6 n6
          obtain ⟨lb, hlb⟩ := S5.bag.lst
          have htk6 : H6 tk = some (.tup [.str "came", .str F0.n, .str F0.n, .str F0.n]) := tupR n6 upd_same (no_lst hlb)
          walk_at "go"
          rename_i pp hpp
          have e7 : Ext [] H6 (upd H6 pp (.tup [.ref tk, v])) := Ext.refl.new hpp
          have S7 := S6.x0 e7
          refine r_app S7.lst (by omega) ?_
          refine ⟨xs ++ [.ref pp], rfl, S7.set fun x hx => ?_, by rw [List.length_append, List.length_singleton]; omega⟩
          rcases List.mem_append.mp hx with hx | hx
          · exact .inl hx
          · rw [List.mem_singleton.mp hx]
            exact .inr ⟨pp, tk, cmK F0.n, v, rfl, upd_same, e7 _ _ htk6 (fun z => nomatch z), .inr (.inr (.inr ⟨rfl, q, av.x0 e7, pq.in_ it⟩))⟩
        · walk_at "go"
          exact ⟨xs, rfl, S, by omega⟩
      · clear S h0 h1 h2 h3 hx
        rintro σ H3 ⟨xs, rfl, S, hx⟩
        walk_at "go"
        rename_i pw hpw
        have S1 := S.x0 (Ext.refl.new (o := .lst ((["level", "room", "came", "none", "none", "none"] : List Str).map V.str)) hpw)
        refine of_strN (ns := ["level", "room", "came", "none", "none", "none"]) S1.bag lstS (S.bag.ne hpw) (by decide) (by decide) fun wo H4 hwo b4 n4 => ?_
        have S2 := S1.bg b4 n4
        clear S S1
        walk_at "go"
        refine ⟨l, rfl, ⟨_, .inl (.inl S2.lst)⟩, fun D hD => ?_⟩
        refine r_lcL (xs := xs) (fun i H5 => ∃ acc, H5 D = some (.lst acc) ∧ acc.length ≤ i ∧ (∀ x ∈ acc, x ∈ xs) ∧ Ext [] H4 H5) ⟨[], upd_same, Nat.le_refl _, (fun _ z => nomatch z), Ext.refl.new hD⟩ ?_ ?_ ?_
        · rintro i H5 _ ⟨acc, _, _, _, e⟩
          exact .inl (.inl (e _ _ S2.lst fun z => nomatch z))
        · rintro i x H5 hxi ⟨acc, hacc, hal, ham, e5⟩
          have hxm := List.mem_of_getElem? hxi
          have hi := (List.getElem?_eq_some_iff.mp hxi).1
          obtain ⟨a, t, kk, v, rfl, g1, g2, g3⟩ := (S2.all _ hxm).x0 e5
          obtain ⟨s1, s2, s3, s4, rfl, _⟩ := g3.hd
          walk_at "go"
          refine ⟨rfl, ?_⟩
          walk_at "go"
          refine r_ixT (.inl (.inl g1)) rfl ?_
          walk_at "go"
          refine r_ixT (.inl (.inl g2)) rfl ?_
          walk_at "go"
          refine r_ndec (fun _ => ?_) (fun _ => ?_)
          · walk_at "go"
            refine ⟨acc, hacc, Nat.lt_of_le_of_lt (by omega : acc.length ≤ 16) (by decide), acc ++ [.ref a], upd_same, by rw [List.length_append, List.length_singleton]; omega, fun y hy => ?_, e5.own hD⟩
            rcases List.mem_append.mp hy with hy | hy
            · exact ham y hy
            · rw [List.mem_singleton.mp hy]; exact hxm
          · exact ⟨acc, hacc, by omega, ham, e5⟩
        · rintro H5 ⟨acc, hacc, hal, ham, e5⟩
          have hD0 : H D = none := S2.ext.freeS hD fun a ha => by rw [List.mem_singleton.mp ha]; obtain ⟨lb, hlb⟩ := b4.lst; rw [hlb]; simp
          have S3 : HS K H H5 b d D F0 vt tot (X * 30) M acc := by
            have S2' := S2.x0 e5
            exact ⟨S2'.b0, S2'.r0, S2'.t0, S2'.bag, hacc, b4.ne hD, fun x hx => S2'.all x (ham x hx), S2'.ext, hD0⟩
          have ha16 : acc.length ≤ 16 := by omega
          clear S2 hacc hal ham e5
          walk_at "go"
          refine r_mid (fun σ' H' => ∃ ys, σ' = [some (V.ref b.a), some (V.ref d), some vt, some (V.str F0.n), some (V.ref D), u5, u6, u7, some (V.str wo), none] ∧ HS K H H' b d D F0 vt tot (X * 30) M ys ∧ ys.length ≤ 16) ?_ ?_
          · walk_at "go"
            rename_i pe hpe
            have S4 := S3.x0 (Ext.refl.new (o := .lst []) hpe)
            obtain ⟨ds, d1, d2, d3, d4⟩ := pairs_data (nameOk ok.ok.nm) (fun r hr => nameOk (ok.ok.rt.nm r hr).2) S4.all
            refine ⟨.list ds, .list [], .lst (.inl (.inl S4.lst)) d1, .lst (.inl (.inl upd_same)) .nil, ?_, by rfl, ?_⟩
            · have e1 : PyData.canLay0 (.list ds) = true := by simpa [PyData.canLay0] using d2
              have e2 : PyData.depth (.list ds) ≤ 64 := by simp only [PyData.depth]; omega
              show (PyData.canLay0 (.list ds) && decide (PyData.depth (.list ds) ≤ 64)) = true
              rw [e1, decide_eq_true e2]
              rfl
            walk_at "go"
            cases acc with
            | nil =>
              cases ds with
              | nil =>
                walk_at "run"
                exact ⟨[], rfl, S4, by decide⟩
              | cons a r => simp at d4
            | cons a0 ar =>
              cases ds with
              | nil => simp at d4
              | cons e0' er =>
                refine r_true rfl ?_
                walk_at "go"
                refine k_draw S4.bag (by omega) (by decide) fun y H6 y0 y1 b6 n6 => ?_
                have S5 := S4.bg b6 n6
                walk_at "go"
                refine r_dec (fun _ => ?_) (fun _ => ?_)
                · walk_at "go"
                  refine ⟨.inl ⟨rfl, _, .inl (.inl S5.lst)⟩, ?_⟩
                  walk_at "go"
                  refine r_len (.inl (.inl (.inl S5.lst))) ?_
                  walk_at "go"
                  refine k_draw S5.bag (by simp only [List.length_cons]; omega) (Int.lt_of_le_of_lt (by omega : ((a0 :: ar).length : Int) ≤ 16) (by decide)) fun y2 H7 y20 y21 b7 n7 => ?_
                  have S6 := S5.bg b7 n7
                  walk_at "go"
                  have hk : y2.toNat < (a0 :: ar).length := by omega
                  refine r_popAt S6.lst (by omega : y2 = ((y2.toNat : Nat) : Int)) (List.getElem?_eq_getElem hk) (by omega) ?_
                  walk_at "go"
                  refine ⟨_, rfl, S6.set fun x hx => .inl (List.mem_of_mem_eraseIdx hx), ?_⟩
                  have := List.length_eraseIdx_le (a0 :: ar) y2.toNat
                  omega
                · walk_at "go"
                  exact ⟨_, rfl, S5, ha16⟩
          · clear S3 ha16
            rintro σ H6 ⟨ys, rfl, S, hy⟩
            walk_at "go"
            refine ⟨b, D, ys, rfl, S.bag, .inl (.inl S.lst), S.nl, by omega, fun p zs H7 hperm hp hps b7 n7 => ?_⟩
            have S7 := S.bg b7 n7
            have hp0 : H p = none := S.ext.freeS hp fun a ha => by rw [List.mem_singleton.mp ha]; obtain ⟨lb, hlb⟩ := S.bag.lst; rw [hlb]; simp
            exact k p zs H7 (fun x hx => S7.all x (hperm.subset hx)) (by rw [hperm.length_eq]; exact hy) hp0 hps b7 S7.ext
end
end Yk

set_option maxHeartbeats 16000000
namespace Yk
open PySem PySem.Spec PyProof.Rows L2

local macro_rules | `(tactic| walk_at "st") => `(tactic| first
  | with_reducible refine' r_tAt ?_
  | ((with_reducible refine' r_fld ?h1 ?h2 ?h3); (case h1 => first | assumption | exact upd_same); (case h2 => first | walk_at "lk" | rfl))
  | with_reducible refine' r_sAt ?_
  | ((with_reducible refine' r_putU ?h1 ?h2); (case h1 => (repeat refine putF_lt ?_); decide))
  | ((with_reducible refine' r_put ?h1 ?h2 ?h3); (case h1 => first | assumption | exact upd_same); (case h2 => (repeat refine putF_lt ?_); decide))
  | with_reducible refine' r_tMt ?_
  | ((with_reducible refine' r_met ?h1 ?h2 ?h3); (case h1 => first | assumption | exact upd_same); (case h2 => first | walk_at "lk" | rfl))
  | with_reducible refine' r_tCr ?_
  | with_reducible refine' r_tCrK ?_
  | with_reducible refine' r_chain ?_)
local macro_rules | `(tactic| walk_at "st") => `(tactic| first
  | with_reducible refine' r_dget ?_
  | with_reducible refine' r_dc ?_
  | with_reducible refine' r_iVals ?_
  | with_reducible refine' r_dnotin ?_
  | with_reducible refine' r_din ?_
  | with_reducible refine' r_iItems ?_
  | with_reducible refine' r_iKeysT ?_
  | with_reducible refine' r_tget1 ?_
  | with_reducible refine' r_tget2 ?_
  | with_reducible refine' r_dput ?_
  | with_reducible refine' r_tPr ?_
  | ((with_reducible refine' r_prp2 ?h1 ?h2); (case h1 => first | assumption | exact upd_same))
  | with_reducible refine' r_par3 ?_
  | ((with_reducible refine' r_dnT ?_); (intro np hnp))
  | ((with_reducible refine' r_dnK ?_); (intro np hnp)))
local macro_rules | `(tactic| walk_at "st") => `(tactic| first
  | with_reducible refine' r_tAtU ?_
  | ((with_reducible refine' r_fldU ?h0 ?h1 ?h2 ?h3); (case h1 => first | assumption | exact upd_same); (case h0 => first | assumption | walk_at "mem"); (case h2 => first | walk_at "lk" | rfl))
  | with_reducible refine' r_sAtU ?_
  | ((with_reducible refine' r_putUV ?h0 ?h2 ?h3); (case h0 => first | assumption | walk_at "mem"); (case h2 => (repeat refine putF_lt ?_); decide))
  | ((with_reducible refine' r_putUU ?h0 ?h1 ?h2 ?h3); (case h1 => first | assumption | exact upd_same); (case h0 => first | assumption | walk_at "mem"); (case h2 => (repeat refine putF_lt ?_); decide))
  | with_reducible refine' r_tMtU ?_
  | ((with_reducible refine' r_metU ?h0 ?h1 ?h2 ?h3); (case h1 => first | assumption | exact upd_same); (case h0 => first | assumption | walk_at "mem"); (case h2 => first | walk_at "lk" | rfl)))
local macro_rules | `(tactic| walk_at "mem") => `(tactic| (simp only [List.mem_cons, Prod.mk.injEq, List.not_mem_nil, or_false, true_and, and_true, true_or, or_true, reduceCtorEq, and_false, false_or]))
/-! What a step of a side keeps; its sizes. -/
def Xn (n : Nat) : Nat := 900 ^ (n + 1)
theorem Xn_pos (n : Nat) : 0 < Xn n := Nat.pow_pos (by decide)
theorem Xn_le {n : Nat} (h : n ≤ 22) : Xn n ≤ 2 ^ 300 := by
  unfold Xn
  have h1 : 900 ^ (n + 1) ≤ 1024 ^ (n + 1) := Nat.pow_le_pow_left (by decide) _
  have h2 : (1024 : Nat) ^ (n + 1) = 2 ^ (10 * (n + 1)) := by rw [Nat.pow_mul]
  rw [h2] at h1
  exact Nat.le_trans h1 (Nat.pow_le_pow_right (by decide) (by omega))
theorem Xn_s (n : Nat) : Xn n * 30 * 30 = Xn (n + 1) := by unfold Xn; rw [Nat.mul_assoc, ← Nat.pow_succ]
theorem Xn_30 (n : Nat) : 30 ∣ Xn n := by unfold Xn; rw [Nat.pow_succ]; exact Nat.dvd_trans (by decide : 30 ∣ 900) (Nat.dvd_mul_left _ _)
theorem Xn_27 (n : Nat) : 27000 ∣ Xn n * 30 := by
  unfold Xn
  rw [Nat.pow_succ, Nat.mul_assoc]
  exact Nat.dvd_trans (by decide : 27000 ∣ 900 * 30) (Nat.dvd_mul_left _ _)
theorem Xn_1 (n : Nat) : Xn n ∣ Xn n * 30 := Nat.dvd_mul_right _ _
theorem Xn_2 (n : Nat) : Xn n * 2 ∣ Xn n * 30 := Nat.mul_dvd_mul_left _ (by decide)
theorem Xn_3 (n : Nat) : Xn n * 30 ∣ Xn (n + 1) := by rw [← Xn_s]; exact Nat.dvd_mul_right _ _
structure Bd (n : Nat) (tot : Rat) (st : St) : Prop where
  it : In (Xn n) (1000 * n) tot
  il : In (Xn n) 1000 st.lo
  ih : In (Xn n) 1000 st.hi
  ir : In (Xn n) 1000 st.rt
def Mo (man : Option (Rat × Rat)) : Prop := ∀ p, man = some p → PairOk p ∧ In 27000 1000 p.1 ∧ In 27000 1000 p.2
theorem half_in {X : Nat} {st : St} (hl : In X 1000 st.lo) (hh : In X 1000 st.hi) : In (X * 2) 1000 (halfQ st) := by
  have h1 := hl.add hh
  have h2 : In 2 1 (mkRat ((1 : Nat) : Int) 2) := In.frac (by decide) (by decide) (by decide)
  have h3 := h1.mul h2
  refine h3.of_le ?_
  show (st.lo + st.hi) * mkRat ((1 : Nat) : Int) 2 ≤ ((1000 : Nat) : Rat)
  have e : mkRat ((1 : Nat) : Int) 2 = 1 / 2 := by rw [Rat.mkRat_eq_div]; rfl
  have := hl.le
  have := hh.le
  rw [e]
  grind
theorem srch_in {X : Nat} {st : St} {cap : Rat} {sz : Option Int} {age now : Int} {g al : Bool} (hc : In X 1000 cap) (hl : In X 1000 st.lo) (hh : In X 1000 st.hi) (hr : In X 1000 st.rt) :
    In (X * 2) 1000 (srch cap sz age now g al st).lo ∧ In (X * 2) 1000 (srch cap sz age now g al st).hi ∧ In (X * 2) 1000 (srch cap sz age now g al st).rt := by
  have d2 : X ∣ X * 2 := Nat.dvd_mul_right _ _
  have hf := half_in hl hh
  unfold srch
  repeat' split
  all_goals first | exact ⟨In.zero, hc.up d2, In.zero⟩ | exact ⟨hl.up d2, hh.up d2, hr.up d2⟩ | exact ⟨In.zero, hc.up d2, hf⟩ | exact ⟨In.zero, hc.up d2, hl.up d2⟩ | exact ⟨hf, hh.up d2, hr.up d2⟩ | exact ⟨hl.up d2, hf, hr.up d2⟩
theorem srch_gone {cap : Rat} {sz : Option Int} {age now : Int} {al : Bool} {s : St} {man : Option (Rat × Rat)} (h : man = none) : (srch cap sz age now man.isNone al s).rt = 0 := by subst h; rfl
theorem off_in {n : Nat} {c : Kd} {F : FlowD} {man : Option (Rat × Rat)} {lev : Str → Rat} {came tot rt : Rat} (hm : Mo man) (hl : ∀ r ∈ F.rs, In 30 1000 (lev r)) (hz : In 30 1000 (zq F.z)) (hg : In 30 1000 F.g) (hc : In (Xn n * 30) (1000 * n) came) (ht : In (Xn n) (1000 * n) tot) (hr : In (Xn n * 30) 1000 rt) :
    In (Xn n * 30) 1000 (offQ c F man lev came tot rt) := by
  have d30 : 30 ∣ Xn n * 30 := Nat.dvd_mul_left _ _
  have hg' := hg.up d30
  cases c with
  | no => exact In.zero
  | lv =>
    refine shq_in (N := 1000) (fun l u h => ?_) ((hgt_in hl).up d30)
    obtain ⟨_, h1, h2⟩ := hm (l, u) h
    exact ⟨h1.up (Xn_27 n), h2.up (Xn_27 n)⟩
  | eg =>
    show In _ _ (if man.isNone = true then 0 else F.g)
    split
    · exact In.zero
    · exact hg'
  | wi =>
    show In _ _ (if man.isNone = true then 0 else lmin F.g (restQ (zq F.z + came) tot))
    split
    · exact In.zero
    · have h1 : In (Xn n * 30) (1000 + 1000 * n) (restQ (zq F.z + came) tot) := by
        unfold restQ
        split
        · exact In.zero
        · rename_i hn
          exact ((hz.up d30).add hc).sub (ht.up (Xn_1 n)) (Rat.le_of_lt (Rat.not_le.mp hn))
      have h2 : In (Xn n * 30) (1000 + 1000 * n) (lmin F.g (restQ (zq F.z + came) tot)) := in_lmin (hg'.most (by omega)) h1
      refine h2.of_le (Rat.le_trans ?_ hg.le)
      exact lmin_le1 _ _
  | pr => exact hr
structure SV where
  vt : V
  vw : V
  vst : V
  tot : Rat
  man : Option (Rat × Rat)
  st : St
structure ST (cF cS cL cE cW cP : Addr) (K : PySem.W.Frag) (H0 H : Hp) (b : Bag) (d d2 a fa : Addr) (age : Int) (F : FlowD) (c : Kd) (s : SV) (tS : Rat) (stS : St) (vals : List V) (qs : List Rat) : Prop where
  bag : BagAt K H b
  row : FRowAt K H b d F
  flw : FlowAt cF K H (.ref fa) F
  sd : H d2 = some (.dK (SideL a s.vt s.vw s.vst))
  tt : Am K H s.vt s.tot
  mn : ManIs K H s.vw s.man
  sa : StateAt K H s.vst s.st
  snd : SndAt cS cL cE cW cP K H b.a a (.ref fa) age F tS stS c
  ams : Ams K H vals qs
  ext : Ext [b.a, d2, a] H0 H
  ne : d ≠ d2
section
variable {cF cS cL cE cW cP : Addr} {K : PySem.W.Frag} {H0 H H1 : Hp} {b : Bag} {d d2 a fa : Addr} {age : Int} {F : FlowD} {c : Kd} {s s' : SV} {tS tS' q : Rat} {stS stS' : St} {vals : List V} {qs : List Rat} {v : V}
theorem FRowAt.dkE (h : FRowAt K H b d F) : ∃ L, H d = some (.dK L) := by
  obtain ⟨ra, ba, xs, vz, vg, vG, vD, vm, h0, _⟩ := h
  exact ⟨_, h0⟩
theorem FlowAt.insA (h : FlowAt cF K H (.ref fa) F) : ∃ dx fs, H fa = some (.ins cF dx fs) := by
  obtain ⟨a, dx, t1, t2, vz, vl, vc, vg, vm, ea, h, _⟩ := h.flds
  cases ea
  exact ⟨dx, _, h⟩
theorem SndAt.insA {na : Addr} {vf : V} {tot : Rat} {st : St} (h : SndAt cS cL cE cW cP K H na a vf age F tot st c) : ∃ C dx fs, H a = some (.ins C dx fs) := let ⟨dx, fs, _, h1, _⟩ := h.ins; ⟨_, dx, fs, h1⟩
theorem ST.x0 (h : ST cF cS cL cE cW cP K H0 H b d d2 a fa age F c s tS stS vals qs) (e : Ext [] H H1) : ST cF cS cL cE cW cP K H0 H1 b d d2 a fa age F c s tS stS vals qs :=
  ⟨h.bag.x0 e, h.row.x0 e, h.flw.x0 e, e _ _ h.sd (fun z => nomatch z), h.tt.x0 e, h.mn.x0 e, h.sa.x0 e, h.snd.x0 e, h.ams.x0 e, h.ext.trans e.of0, h.ne⟩
theorem ST.bg (h : ST cF cS cL cE cW cP K H0 H b d d2 a fa age F c s tS stS vals qs) (b1 : BagAt K H1 b) (e : Ext [b.a] H H1) : ST cF cS cL cE cW cP K H0 H1 b d d2 a fa age F c s tS stS vals qs := by
  obtain ⟨lb, hlb⟩ := h.bag.lst
  have n := no_lst hlb
  obtain ⟨C, dx, fs, hi⟩ := h.snd.insA
  exact ⟨b1, h.row.bg h.bag e, h.flw.bg h.bag e, e _ _ h.sd (fun z => bag_ne_dk h.bag h.sd (List.mem_singleton.mp z)), h.tt.f e n, ManIs.f e n h.mn, h.sa.f e n, h.snd.f e n na_self (fun z => by rw [List.mem_singleton.mp z, hlb] at hi; cases hi), AmsF e n h.ams, h.ext.trans (e.mono fun x hx => by rw [List.mem_singleton.mp hx]; simp), h.ne⟩
/-- neither a tuple nor a list at S -/
theorem ST.f {S : List Addr} (h : ST cF cS cL cE cW cP K H0 H b d d2 a fa age F c s tS stS vals qs) (e : Ext S H H1) (n : NoTup H S ∧ NoLst H S) (h1 : d ∉ S) (h2 : d2 ∉ S) (h3 : a ∉ S) (h4 : fa ∉ S) (x : Ext [b.a, d2, a] H0 H1) : ST cF cS cL cE cW cP K H0 H1 b d d2 a fa age F c s tS stS vals qs :=
  ⟨h.bag.f e n.2, h.row.f e n.1 n.2 h1, h.flw.f e n.1 h4, e _ _ h.sd h2, h.tt.f e n.1, ManIs.f e n.1 h.mn, h.sa.f e n.1, h.snd.f e n.1 (nolst_na n.2) h3, AmsF e n.1 h.ams, x, h.ne⟩
/-- another entry of the side -/
theorem ST.put (h : ST cF cS cL cE cW cP K H0 H b d d2 a fa age F c s tS stS vals qs) (t1 : Am K H s'.vt s'.tot) (m1 : ManIs K H s'.vw s'.man) (s1 : StateAt K H s'.vst s'.st) : ST cF cS cL cE cW cP K H0 (upd H d2 (.dK (SideL a s'.vt s'.vw s'.vst))) b d d2 a fa age F c s' tS stS vals qs := by
  have e : Ext [d2] H (upd H d2 (.dK (SideL a s'.vt s'.vw s'.vst))) := Ext.refl.at_ List.mem_cons_self
  have n := no_dk h.sd
  obtain ⟨C, dx, fs, hi⟩ := h.snd.insA
  obtain ⟨dy, gs, hf⟩ := h.flw.insA
  exact ⟨h.bag.f e n.2, h.row.f e n.1 n.2 (fun z => h.ne (List.mem_singleton.mp z)), h.flw.f e n.1 (fun z => by have := h.sd; rw [← List.mem_singleton.mp z, hf] at this; cases this), upd_same, t1.f e n.1, ManIs.f e n.1 m1, s1.f e n.1, h.snd.f e n.1 (nolst_na n.2) (fun z => by have := h.sd; rw [← List.mem_singleton.mp z, hi] at this; cases this), AmsF e n.1 h.ams, h.ext.trans (e.mono fun x hx => by rw [List.mem_singleton.mp hx]; simp), h.ne⟩
/-- the sender alone changes -/
theorem ST.sn (h : ST cF cS cL cE cW cP K H0 H b d d2 a fa age F c s tS stS vals qs) (e : Ext [a] H H1) (hfa : fa ≠ a) (hs : SndAt cS cL cE cW cP K H1 b.a a (.ref fa) age F tS' stS' c) : ST cF cS cL cE cW cP K H0 H1 b d d2 a fa age F c s tS' stS' vals qs := by
  obtain ⟨C, dx, fs, hi⟩ := h.snd.insA
  have n := no_ins hi
  obtain ⟨L, hL⟩ := h.row.dkE
  have hsd := h.sd
  exact ⟨h.bag.f e n.2, h.row.f e n.1 n.2 (fun z => by rw [List.mem_singleton.mp z, hi] at hL; cases hL), h.flw.f e n.1 (fun z => hfa (List.mem_singleton.mp z)), e _ _ hsd (fun z => by rw [List.mem_singleton.mp z, hi] at hsd; cases hsd), h.tt.f e n.1, ManIs.f e n.1 h.mn, h.sa.f e n.1, hs, AmsF e n.1 h.ams, h.ext.trans (e.mono fun x hx => by rw [List.mem_singleton.mp hx]; simp), h.ne⟩
/-- a dict of our own, with tuple keys -/
theorem ST.tab {g : Addr} {kvs kvs' : List (List Key × V)} (h : ST cF cS cL cE cW cP K H0 H b d d2 a fa age F c s tS stS vals qs) (hg : H g = some (.dT kvs)) (h0 : H0 g = none) : ST cF cS cL cE cW cP K H0 (upd H g (.dT kvs')) b d d2 a fa age F c s tS stS vals qs := by
  have e : Ext [g] H (upd H g (.dT kvs')) := Ext.refl.at_ List.mem_cons_self
  have n : NoTup H [g] ∧ NoLst H [g] := ⟨fun b hb => by rw [List.mem_singleton.mp hb]; exact ⟨_, hg, (fun _ z => nomatch z), fun _ _ z => nomatch z⟩, fun b hb => by rw [List.mem_singleton.mp hb]; exact ⟨_, hg, (fun _ z => nomatch z), fun _ _ z => nomatch z⟩⟩
  obtain ⟨C, dx, fs, hi⟩ := h.snd.insA
  obtain ⟨dy, gs, hf⟩ := h.flw.insA
  obtain ⟨L, hL⟩ := h.row.dkE
  have hsd := h.sd
  exact h.f e n (fun z => by rw [List.mem_singleton.mp z, hg] at hL; cases hL) (fun z => by rw [List.mem_singleton.mp z, hg] at hsd; cases hsd) (fun z => by rw [List.mem_singleton.mp z, hg] at hi; cases hi) (fun z => by rw [List.mem_singleton.mp z, hg] at hf; cases hf) (h.ext.own h0)
theorem ST.add (h : ST cF cS cL cE cW cP K H0 H b d d2 a fa age F c s tS stS vals qs) (av : Am K H v q) : ST cF cS cL cE cW cP K H0 H b d d2 a fa age F c s tS stS (v :: vals) (q :: qs) := { h with ams := Ams.cons av h.ams }
theorem ST.drop (h : ST cF cS cL cE cW cP K H0 H b d d2 a fa age F c s tS stS vals qs) : ST cF cS cL cE cW cP K H0 H b d d2 a fa age F c s tS stS [] [] := { h with ams := Ams.nil }
theorem ST.at_ (h : ST cF cS cL cE cW cP K H0 H b d d2 a fa age F c s tS stS vals qs) (i : Nat) (hv : vals[i]? = some v) (hq : qs[i]? = some q) : Am K H v q := h.ams.2 i v q hv hq
end
theorem mem_putK {κ : Type} [DecidableEq κ] {l : List (κ × V)} {k : κ} {v : V} {p : κ × V} (h : p ∈ putK l k v) : p = (k, v) ∨ p ∈ l := by
  unfold putK at h
  split at h
  · obtain ⟨q, hq, rfl⟩ := List.mem_map.mp h
    by_cases e : q.1 = k
    · rw [if_pos e, e]; exact .inl rfl
    · rw [if_neg e]; exact .inr hq
  · rcases List.mem_append.mp h with h | h
    · exact .inr h
    · exact .inl (List.mem_singleton.mp h)
theorem len_putK {κ : Type} [DecidableEq κ] {l : List (κ × V)} {k : κ} {v : V} : (putK l k v).length ≤ l.length + 1 := by
  unfold putK
  split
  · rw [List.length_map]; omega
  · rw [List.length_append]; exact Nat.le_refl _
theorem valV_mem {κ : Type} [DecidableEq κ] {l : List (κ × V)} {k : κ} {v : V} (h : valV l k = some v) : (k, v) ∈ l := by
  unfold valV at h
  obtain ⟨p, hp, rfl⟩ := Option.map_eq_some_iff.mp h
  have h1 := List.find?_some hp
  have h2 := List.mem_of_find?_eq_some hp
  have h3 : p.1 = k := of_decide_eq_true h1
  rw [← h3]
  exact h2
theorem hrd_of {K : PySem.W.Frag} {H : Hp} {n : Str} {rs : List Str} {X M : Nat} {kvs : List (List Key × V)} (h : ∀ p ∈ kvs, GoodKV K H n rs X M p.1 p.2) : ∃ lev bit came, Hrd K H n rs kvs lev bit came ∧ (∀ r, In 30 1000 (lev r)) ∧ In X M came := by
  have h1 : ∀ r : Str, ∃ q, In 30 1000 q ∧ ((valV kvs (lvK n r) = none ∧ q = 0) ∨ ∃ v, valV kvs (lvK n r) = some v ∧ Am K H v q) := fun r => by
    cases e : valV kvs (lvK n r) with
    | none => exact ⟨0, In.zero, .inl ⟨rfl, rfl⟩⟩
    | some v =>
      have g := h _ (valV_mem e)
      rcases g with ⟨r', _, e2, q, h3, h4⟩ | ⟨r', _, e2, _⟩ | ⟨r', _, e2, _⟩ | ⟨e2, _⟩
      · exact ⟨q, h4, .inr ⟨v, rfl, h3⟩⟩
      · simp [lvK, bitK] at e2; exact absurd e2.1 (by decide +kernel)
      · simp [lvK, rmK] at e2; exact absurd e2.1 (by decide +kernel)
      · simp [lvK, cmK] at e2; exact absurd e2.1 (by decide +kernel)
  have h2 : ∀ r : Str, ∃ x : Bool, (valV kvs (bitK n r) = none ∧ x = false) ∨ valV kvs (bitK n r) = some (.bl x) := fun r => by
    cases e : valV kvs (bitK n r) with
    | none => exact ⟨false, .inl ⟨rfl, rfl⟩⟩
    | some v =>
      have g := h _ (valV_mem e)
      rcases g with ⟨r', _, e2, _⟩ | ⟨r', _, e2, x, rfl⟩ | ⟨r', _, e2, _⟩ | ⟨e2, _⟩
      · simp [lvK, bitK] at e2; exact absurd e2.1 (by decide +kernel)
      · exact ⟨x, .inr rfl⟩
      · simp [bitK, rmK] at e2; exact absurd e2.1 (by decide +kernel)
      · simp [bitK, cmK] at e2; exact absurd e2.1 (by decide +kernel)
  have h3 : ∃ q, In X M q ∧ ((valV kvs (cmK n) = none ∧ q = 0) ∨ ∃ v, valV kvs (cmK n) = some v ∧ Am K H v q) := by
    cases e : valV kvs (cmK n) with
    | none => exact ⟨0, In.zero, .inl ⟨rfl, rfl⟩⟩
    | some v =>
      have g := h _ (valV_mem e)
      rcases g with ⟨r', _, e2, _⟩ | ⟨r', _, e2, _⟩ | ⟨r', _, e2, _⟩ | ⟨_, q, h3, h4⟩
      · simp [lvK, cmK] at e2; exact absurd e2.1 (by decide +kernel)
      · simp [cmK, bitK] at e2; exact absurd e2.1 (by decide +kernel)
      · simp [cmK, rmK] at e2; exact absurd e2.1 (by decide +kernel)
      · exact ⟨q, h4, .inr ⟨v, rfl, h3⟩⟩
  obtain ⟨lev, hlev⟩ := Classical.axiomOfChoice h1
  obtain ⟨bit, hbit⟩ := Classical.axiomOfChoice h2
  obtain ⟨came, hc1, hc2⟩ := h3
  exact ⟨lev, bit, came, ⟨fun r _ => (hlev r).2, fun r _ => hbit r, hc2⟩, fun r => (hlev r).1, hc1⟩
def spOffU (cF cS cL cE cW cP : Addr) (K : PySem.W.Frag) : Kd → Sp
  | .no => spOff0 K
  | c => spOff cF cS cL cE cW cP K c
def spAskU (cS cL cE cW cP : Addr) (K : PySem.W.Frag) : Kd → Sp
  | .pr => spAsk cS cL cE cW cP K .pr
  | _ => spAsk0 K
theorem offU {cF cS cL cE cW cP : Addr} {K : PySem.W.Frag} {c : Kd} {d : Str} {vs : List V} {H : Hp} {Q : VK} {E : XK} (hk : KdIs c d) (h : spOff cF cS cL cE cW cP K c vs H Q E) : spOffU cF cS cL cE cW cP K c vs H Q E := by
  cases c with
  | no => exact absurd hk id
  | _ => exact h
theorem askU {cS cL cE cW cP : Addr} {K : PySem.W.Frag} {c : Kd} {vs : List V} {H : Hp} {Q : VK} {E : XK} (h : spAsk cS cL cE cW cP K c vs H Q E) : spAskU cS cL cE cW cP K c vs H Q E := by
  cases c with
  | pr => exact h
  | _ =>
    obtain ⟨a, v, vf, age, F, tot, st, na, man, X, M, rfl, _, _, _, _, _, _, _, k⟩ := h
    exact ⟨a, v, rfl, fun u au => k u H Ext.refl au⟩
end Yk

set_option maxHeartbeats 32000000
namespace Yk
open PySem PySem.Spec PyProof.Rows L2

local macro_rules | `(tactic| walk_at "st") => `(tactic| first
  | with_reducible refine' r_tAt ?_
  | ((with_reducible refine' r_fld ?h1 ?h2 ?h3); (case h1 => first | assumption | exact upd_same); (case h2 => first | walk_at "lk" | rfl))
  | with_reducible refine' r_sAt ?_
  | ((with_reducible refine' r_putU ?h1 ?h2); (case h1 => (repeat refine putF_lt ?_); decide))
  | ((with_reducible refine' r_put ?h1 ?h2 ?h3); (case h1 => first | assumption | exact upd_same); (case h2 => (repeat refine putF_lt ?_); decide))
  | with_reducible refine' r_tMt ?_
  | ((with_reducible refine' r_met ?h1 ?h2 ?h3); (case h1 => first | assumption | exact upd_same); (case h2 => first | walk_at "lk" | rfl))
  | with_reducible refine' r_tCr ?_
  | with_reducible refine' r_tCrK ?_
  | with_reducible refine' r_chain ?_)
local macro_rules | `(tactic| walk_at "st") => `(tactic| first
  | with_reducible refine' r_dget ?_
  | with_reducible refine' r_dc ?_
  | with_reducible refine' r_iVals ?_
  | with_reducible refine' r_dnotin ?_
  | with_reducible refine' r_din ?_
  | with_reducible refine' r_iItems ?_
  | with_reducible refine' r_iKeysT ?_
  | with_reducible refine' r_tget1 ?_
  | with_reducible refine' r_tget2 ?_
  | with_reducible refine' r_dput ?_
  | with_reducible refine' r_tPr ?_
  | ((with_reducible refine' r_prp2 ?h1 ?h2); (case h1 => first | assumption | exact upd_same))
  | with_reducible refine' r_par3 ?_
  | ((with_reducible refine' r_dnT ?_); (intro np hnp))
  | ((with_reducible refine' r_dnK ?_); (intro np hnp)))
local macro_rules | `(tactic| walk_at "st") => `(tactic| first
  | with_reducible refine' r_tAtU ?_
  | ((with_reducible refine' r_fldU ?h0 ?h1 ?h2 ?h3); (case h1 => first | assumption | exact upd_same); (case h0 => first | assumption | walk_at "mem"); (case h2 => first | walk_at "lk" | rfl))
  | with_reducible refine' r_sAtU ?_
  | ((with_reducible refine' r_putUV ?h0 ?h2 ?h3); (case h0 => first | assumption | walk_at "mem"); (case h2 => (repeat refine putF_lt ?_); decide))
  | ((with_reducible refine' r_putUU ?h0 ?h1 ?h2 ?h3); (case h1 => first | assumption | exact upd_same); (case h0 => first | assumption | walk_at "mem"); (case h2 => (repeat refine putF_lt ?_); decide))
  | with_reducible refine' r_tMtU ?_
  | ((with_reducible refine' r_metU ?h0 ?h1 ?h2 ?h3); (case h1 => first | assumption | exact upd_same); (case h0 => first | assumption | walk_at "mem"); (case h2 => first | walk_at "lk" | rfl)))
local macro_rules | `(tactic| walk_at "mem") => `(tactic| (simp only [List.mem_cons, Prod.mk.injEq, List.not_mem_nil, or_false, true_and, and_true, true_or, or_true, reduceCtorEq, and_false, false_or]))
/-! A step of a side. -/
local macro_rules | `(tactic| walk_at "lk") => `(tactic| assumption)
theorem r_metW {κ : Type} {H : Hp} {S : List (Addr × κ)} {C a dx : Addr} {c : κ} {m : Str} {fs : List (Str × V)} {R : κ → Prop} (hC : (C, c) ∈ S) (h1 : H a = some (.ins C dx fs)) (h2 : fs.lookup m = none) (h : R c) : ∃ a' C' c' dx' fs', V.ref a = .ref a' ∧ (C', c') ∈ S ∧ H a' = some (.ins C' dx' fs') ∧ fs'.lookup m = none ∧ R c' := ⟨a, C, c, dx, fs, rfl, hC, h1, h2, h⟩
local macro_rules | `(tactic| walk_at "st") => `(tactic| ((with_reducible refine' r_metW ?h0 ?h1 ?h2 ?h3); (case h1 => first | assumption | exact upd_same); (case h0 => assumption); (case h2 => assumption)))
theorem no_dt {H : Hp} {g : Addr} {kvs : List (List Key × V)} (hg : H g = some (.dT kvs)) : NoTup H [g] ∧ NoLst H [g] := ⟨fun b hb => by rw [List.mem_singleton.mp hb]; exact ⟨_, hg, (fun _ z => nomatch z), fun _ _ z => nomatch z⟩, fun b hb => by rw [List.mem_singleton.mp hb]; exact ⟨_, hg, (fun _ z => nomatch z), fun _ _ z => nomatch z⟩⟩
theorem kd_probe {c : Kd} {d : Str} (h : KdIs c d) (hd : d = "probe") : c = .pr := by
  cases c with
  | no => exact absurd h id
  | pr => rfl
  | lv => exact absurd ((show d = "level" from h).symm.trans hd) (by decide +kernel)
  | eg => exact absurd ((show d = "eager" from h).symm.trans hd) (by decide +kernel)
  | wi => exact absurd ((show d = "window" from h).symm.trans hd) (by decide +kernel)
theorem kd_not {c : Kd} {d : Str} {man : Option (Rat × Rat)} {st : St} (h : KdIs c d) (hd : ¬ d = "probe") : asksQ c man st = 0 := by
  cases c with
  | pr => exact absurd h hd
  | _ => rfl
theorem GoodKV.same {K : PySem.W.Frag} {H : Hp} {n : Str} {rs : List Str} {X M : Nat} {kk : List Key} {v : V} (h : GoodKV K H n rs X M kk v) : flatB v = true ∨ ∃ c, v = .ref c := by
  rcases h with ⟨r, h1, h2, q, ⟨a, rfl, _⟩, h4⟩ | ⟨r, h1, h2, x, rfl⟩ | ⟨r, h1, h2, q, ⟨a, rfl, _⟩⟩ | ⟨h2, q, ⟨a, rfl, _⟩, h4⟩
  · exact .inr ⟨_, rfl⟩
  · exact .inl rfl
  · exact .inr ⟨_, rfl⟩
  · exact .inr ⟨_, rfl⟩
section
variable {P : Program} {w : World} {K : PySem.W.Frag} {mg : Str → Option Value} {base : Heap} {f : Addr} {fd : FuncData}
def spStep (cF cS cL cE cW cP : Addr) (K : PySem.W.Frag) : Sp := fun vs H Q _ => ∃ (b : Bag) (d d2 a fa : Addr) (now age : Int) (F : FlowD) (c : Kd) (s : SV) (n : Nat), vs = [.ref b.a, .ref d, .ref d2, .int now, .int age] ∧ ST cF cS cL cE cW cP K H H b d d2 a fa age F c s s.tot s.st [] [] ∧ FRowOk F ∧ KdIs c F.d ∧ KdOk c F.z ∧ fa ≠ a ∧ (0 ≤ age ∧ age ≤ 1000) ∧
  Mo s.man ∧ Bd n s.tot s.st ∧ n ≤ 21 ∧ ∀ s' H', ST cF cS cL cE cW cP K H H' b d d2 a fa age F c s' s'.tot s'.st [] [] → Mo s'.man → Bd (n + 1) s'.tot s'.st → Q (.bl true) H'
abbrev s_law_step : Stmt := top 78
theorem c_law_step : FnScope ["_law_bag_here", "_law_row", "_law_side", "_law_now_of", "_law_age_of", "_law_told", "_law_wish_here", "_law_heard", "_law_given", "_law_chan", "_law_item", "_law_due_here", "_law_asks", "_law_one"] ["_law_bag_here", "_law_row", "_law_side", "_law_now_of", "_law_age_of"] (defScope s_law_step) := ⟨rfl, rfl, rfl, by decide +kernel, rfl, by decide +kernel, by decide +kernel⟩
theorem f_law_step (F : FunD K "_law_step" "_law_step" (defArgs s_law_step) (defBody s_law_step) (defScope s_law_step) [] [] f fd) (hm : mg "_law_step" = some (.ref f)) {cF cS cL cE cW cP : Addr} (T : Bt mg) (TSender : CtU K mg "Sender" cS (S5 cS cL cE cW cP) ["flow", "age", "total"]) (MSender_offer : MtU P w K mg base 5 (S5 cS cL cE cW cP) "offer" (spOffU cF cS cL cE cW cP K)) (MSender_asks : MtU P w K mg base 4 (S5 cS cL cE cW cP) "asks" (spAskU cS cL cE cW cP K)) (MSender_note_sent : MtU P w K mg base 3 (S5 cS cL cE cW cP) "note_sent" (fun _ => spNoteU (S5 cS cL cE cW cP) K)) (F_law_draw : Fn P w K mg base 1 "_law_draw" (spDraw K)) (F_law_wish : Fn P w K mg base 4 "_law_wish" (spWish K)) (F_law_hears : Fn P w K mg base 4 "_law_hears" (spHears K)) (F_law_searched : Fn P w K mg base 4 "_law_searched" (spSrch K)) (F_law_due : Fn P w K mg base 4 "_law_due" (spDue K)) (F_law_same : Fn P w K mg base 4 "_law_same" (spLike K 4)) (F_law_half : Fn P w K mg base 3 "_law_half" (spHalf K)) (F_law_part : Fn P w K mg base 3 "_law_part" (spPart K)) (F_law_sum : Fn P w K mg base 2 "_law_sum" (sp2 (fun _ _ => True) (· + ·) K)) : Fn P w K mg base 6 "_law_step" (spStep cF cS cL cE cW cP K) := by
  refine fn_def F hm c_law_step (fun vs H Q E h => ?_) (fun _ _ _ _ _ _ us hl => match us, hl with | [_, _, _, _, _], _ => rfl) (fun cdv A outer s H vs Q E hr h => ?_)
  · obtain ⟨b, d, d2, a, fa, now, age, F, c, s, n, rfl, _⟩ := h
    rfl
  · obtain ⟨b, d, d2, a, fa, now, age, F0, c, s0, n, rfl, S0, ok, hk, hkz, hfa, hage, mo0, bd, n20, k⟩ := h
    have nd := c_law_step.nd
    refine ⟨_, (pss_cons (ps_set (i := 5) nd rfl (by first | exact Or.inl rfl | exact Or.inr rfl) (pe_dget (hu_of hr) (pv 2) pe_str (fun _ _ => rfl)))
      (pss_mid (ps_if (pt_cmpR op_eq (pe_fn F_law_draw (hr.mono (by decide)) (pa_cons (pv 0) (pa_cons pe_int pa_nil))) pe_int (nomark _))
        (pss_one (ps_dput (hu_of hr) (pv 2) pe_str (pe_fn F_law_wish (hr.mono (by decide)) (pa_cons (pv 0) (pa_cons (pv 1) pa_nil))) (by rfl)))
        pss_nil)
      (pss_cons (ps_par3 (i := 6) (j := 7) (l := 8) (by rfl) nd rfl rfl rfl (by decide) (by decide) (by decide) rfl rfl rfl (pa_cons (pe_dget (hu_of hr) (pv 2) pe_str (fun _ _ => rfl)) (pa_cons pe_dnewT (pa_cons pe_dnewT pa_nil))) (by rfl))
      (pss_cons (ps_for PassesOwn.never rfl (pi_list (pe_fn F_law_hears (hr.mono (by decide)) (pa_cons (pv 0) (pa_cons (pv 1) (pa_cons (pe_dget (hu_of hr) (pv 2) pe_str (fun _ _ => rfl)) pa_nil))))) (pg_tup rfl (pgs_cons (pg_name (i := 9) nd rfl (by first | exact Or.inl rfl | exact Or.inr rfl)) (pgs_cons (pg_name (i := 10) nd rfl (by first | exact Or.inl rfl | exact Or.inr rfl)) pgs_nil)))
        (pss_cons (ps_dput (hu_of hr) (pv 7) (pv 9) (pv 10) (by rfl))
        (pss_one (ps_dput (hu_of hr) (pv 8) (pv 9) (pv 10) (by rfl)))))
      (pss_cons (ps_dput (hu_of hr) (pv 2) pe_str (pe_fn F_law_searched (hr.mono (by decide)) (pa_cons (pv 1) (pa_cons (pe_dget (hu_of hr) (pv 2) pe_str (fun _ _ => rfl)) (pa_cons (pv 3) (pa_cons (pv 6) (pa_cons (pv 7) (pa_cons (pv 4) pa_nil))))))) (by rfl))
      (pss_cons (ps_set (i := 11) nd rfl (by first | exact Or.inl rfl | exact Or.inr rfl) (pe_fn F_law_due (hr.mono (by decide)) (pa_cons (pv 1) (pa_cons (pv 2) (pa_cons (pv 6) (pa_cons (pv 7) pa_nil))))))
      (pss_cons (ps_if (PW.pt (pw_or (pt_not (pt_val (pe_fn F_law_same (hr.mono (by decide)) (pa_cons (pe_mtU MSender_offer (hr.mono (by decide)) (pv 5) (pa_cons (pv 3) (pa_cons (pv 6) (pa_cons (pv 8) pa_nil)))) (pa_cons (pv 11) pa_nil))))) (pw_or1 (pt_cmpR (op_ne_T (hu_of hr)) (pv 8) (pv 7) (nomark _)))))
        (pss_one (ps_ret pe_bl))
        pss_nil)
      (pss_cons (ps_expr (pe_dclearT (pv 8)))
      (pss_mid (ps_set (i := 12) nd rfl (by first | exact Or.inl rfl | exact Or.inr rfl) (pe_ifExp (PW.pt (pw_and (pt_cmpR op_eq (pe_dget (hu_of hr) (pv 1) pe_str (fun _ _ => rfl)) pe_str (nomark _)) (pw_and1 (pt_cmpR (op_neD hr.units) (pv 6) (pe_tup pa_nil) (nomark _))))) (pe_fn F_law_half (hr.mono (by decide)) (pa_cons (pe_dget (hu_of hr) (pv 2) pe_str (fun _ _ => rfl)) pa_nil)) (pe_tup (pa_cons pe_int (pa_cons pe_int pa_nil)))))
      (pss_cons (ps_if (PW.pt (pw_or (pt_not (pt_val (pe_fn F_law_same (hr.mono (by decide)) (pa_cons (pe_mtU MSender_asks (hr.mono (by decide)) (pv 5) (pa_cons (pv 6) pa_nil)) (pa_cons (pv 12) pa_nil))))) (pw_or1 (pt_not (pt_val (pe_fn F_law_same (hr.mono (by decide)) (pa_cons (pe_atU TSender (by decide +kernel) (pv 5)) (pa_cons (pe_dget (hu_of hr) (pv 2) pe_str (fun _ _ => rfl)) pa_nil))))))))
        (pss_one (ps_ret pe_bl))
        pss_nil)
      (pss_mid (ps_set (i := 13) nd rfl (by first | exact Or.inl rfl | exact Or.inr rfl) (pe_ifExp (pt_cmpR op_gt (pe_fn F_law_draw (hr.mono (by decide)) (pa_cons (pv 0) (pa_cons pe_int pa_nil))) pe_int (nomark _)) (pv 11) (pe_fn F_law_part (hr.mono (by decide)) (pa_cons (pv 0) (pa_cons (pv 11) pa_nil)))))
      (pss_mid (ps_if (pt_cmpR op_lt (pe_ix ix_tup (pv 13) pe_int (fun _ _ => rfl)) (pe_op op_pow pe_int pe_int) (nomark _))
        (pss_cons (ps_if (pt_cmpR op_notN (pe_mtU MSender_note_sent (hr.mono (by decide)) (pv 5) (pa_cons (pv 13) pa_nil)) pe_non (nomark _))
          (pss_one (ps_ret pe_bl))
          pss_nil)
        (pss_one (ps_dput (hu_of hr) (pv 2) pe_str (pe_fn F_law_sum (hr.mono (by decide)) (pa_cons (pe_dget (hu_of hr) (pv 2) pe_str (fun _ _ => rfl)) (pa_cons (pv 13) pa_nil))) (by rfl))))
        pss_nil)
      (pss_one (ps_ret (pe_and (pe_fn F_law_same (hr.mono (by decide)) (pa_cons (pe_atU TSender (by decide +kernel) (pv 5)) (pa_cons (pe_dget (hu_of hr) (pv 2) pe_str (fun _ _ => rfl)) pa_nil))) (pe_one (pe_fn F_law_same (hr.mono (by decide)) (pa_cons (pe_mtU MSender_asks (hr.mono (by decide)) (pv 5) (pa_cons (pv 6) pa_nil)) (pa_cons (pv 12) pa_nil))))))))))))))))))), ?_⟩
    show (_ : TS) _ [some _, some _, some _, some _, some _, none, none, none, none, none, none, none, none, none] _
    try dsimp only [cxOf, Cx.nox]
    have hC : (c.cls cS cL cE cW cP, c) ∈ S5 cS cL cE cW cP := kd_mem c
    have p3 : (2 : Nat) ^ 300 ≤ 2 ^ 380 := Nat.pow_le_pow_right (by decide) (by decide)
    have p4 : (2 : Nat) ^ 300 ≤ 2 ^ 400 := Nat.pow_le_pow_right (by decide) (by decide)
    have p20 : (2 : Nat) ^ 20 ≤ 2 ^ 300 := Nat.pow_le_pow_right (by decide) (by decide)
    have Xp := Xn_pos n
    have Xp1 := Xn_pos (n + 1)
    have Xl : Xn n ≤ 2 ^ 300 := Xn_le (by omega)
    have Xl1 : Xn (n + 1) ≤ 2 ^ 300 := Xn_le (by omega)
    have X30 : Xn n * 30 ≤ 2 ^ 300 := Nat.le_trans (Nat.le_of_dvd Xp1 (Xn_3 n)) Xl1
    have sm : ∀ {m : Nat}, m ≤ 100000 → m ≤ 2 ^ 300 := fun h => Nat.le_trans h (Nat.le_trans (by decide : 100000 ≤ 2 ^ 20) p20)
    have zX : ∀ {q : Rat} {m : Nat}, m ≤ 100000 → In (Xn n * 30) m q → Sz 4000 q := fun h i => szG i (by omega) (Nat.le_trans X30 p4) (Nat.le_trans (sm h) p4)
    have zX1 : ∀ {q : Rat} {m : Nat}, m ≤ 100000 → In (Xn (n + 1)) m q → Sz 4000 q := fun h i => szG i Xp1 (Nat.le_trans Xl1 p4) (Nat.le_trans (sm h) p4)
    have d30 : 30 ∣ Xn n * 30 := Nat.dvd_mul_left _ _
    have r5 := ok.ok.rt.l5
    walk_at "go"
    refine r_getS S0.sd sd_told ?_
    walk_at "go"
    refine r_mid (fun σ' H' => ∃ s', σ' = [some (V.ref b.a), some (V.ref d), some (V.ref d2), some (V.int now), some (V.int age), some (V.ref a), none, none, none, none, none, none, none, none] ∧ ST cF cS cL cE cW cP K H H' b d d2 a fa age F0 c s' s0.tot s0.st [] [] ∧ s'.tot = s0.tot ∧ s'.st = s0.st ∧ Mo s'.man) ?_ ?_
    · walk_at "go"
      refine k_draw S0.bag (by omega) (by decide) fun y H1 y0 y1 b1 n1 => ?_
      have S1 := S0.bg b1 n1
      walk_at "go"
      refine r_dec (fun _ => ?_) (fun _ => ?_)
      · obtain ⟨L, vz, vg, vG, vD, vm, hL, lL, _, _, _, _, _, lg, ag, lG, aG, _, _, _, _, _, _⟩ := S1.row.row
        walk_at "go"
        refine ⟨b, d, L, vg, vG, F0.l, F0.c, rfl, S1.bag, hL, lg, lG, ag, aG, ok.il, ok.ic, ok.ok.lc, fun v man H2 hm hman b2 n2 => ?_⟩
        have S2 := S1.bg b2 n2
        walk_at "go"
        refine r_putS S2.sd (show 4 < 1000 by decide) ?_
        rw [se_wish]
        exact ⟨{ s0 with vw := v, man := man }, rfl, S2.put (s' := { s0 with vw := v, man := man }) S2.tt hm S2.sa, rfl, rfl, fun p hp => ⟨(hman p hp).1, (hman p hp).2.2.2.1, (hman p hp).2.2.2.2⟩⟩
      · walk_at "go"
        exact ⟨s0, rfl, S1, rfl, rfl, mo0⟩
    · clear mo0
      rintro σ H1 ⟨s, rfl, S, e1, e2, mo⟩
      rw [← e1, ← e2] at S
      rw [← e1, ← e2] at bd
      clear S0 e1 e2 s0
      walk_at "go"
      refine r_getS S.sd sd_wish ?_
      walk_at "go"
      rename_i g7 hg7 g8 hg8
      have e0 : Ext [] H1 (upd (upd H1 g7 (.dT [])) g8 (.dT [])) := (Ext.refl.new hg7).new hg8
      have S1 := S.x0 e0
      have n78 : g7 ≠ g8 := fun z => by rw [← z, upd_same] at hg8; cases hg8
      have ex1 : ∀ x ∈ [b.a, d2, a], H1 x ≠ none := fun x hx => by
        simp only [List.mem_cons, List.not_mem_nil, or_false] at hx
        rcases hx with rfl | rfl | rfl
        · obtain ⟨l, h⟩ := S.bag.lst; rw [h]; simp
        · rw [S.sd]; simp
        · obtain ⟨C, dx, fs, h⟩ := S.snd.insA; rw [h]; simp
      have h70 : H g7 = none := S.ext.freeS hg7 ex1
      have h80 : H g8 = none := S.ext.freeS (by rw [upd_ne n78.symm] at hg8; exact hg8) ex1
      have q7 : (upd (upd H1 g7 (.dT [])) g8 (.dT [])) g7 = some (.dT []) := by rw [upd_ne n78]; exact upd_same
      have q8 : (upd (upd H1 g7 (.dT [])) g8 (.dT [])) g8 = some (.dT []) := upd_same
      generalize upd (upd H1 g7 (.dT [])) g8 (.dT []) = H2 at *
      clear S e0 hg7 hg8 ex1
      walk_at "go"
      refine r_par3e ?_
      walk_at "go"
      refine r_for ?_
      refine r_iList ?_
      walk_at "go"
      refine r_getS S1.sd sd_total ?_
      walk_at "go"
      refine ⟨b, d, F0, s.vt, s.tot, Xn n, 1000 * n, rfl, S1.bag, S1.row, ok, S1.tt, bd.it, Xp, Nat.le_trans Xl p3, Nat.le_trans (sm (by omega)) p3, fun pl ys H3 hall hlen hpl hys b3 n3 => ?_⟩
      have S2 := S1.bg b3 n3
      have ng : ∀ {g : Addr}, H2 g = some (.dT []) → H3 g = some (.dT []) := fun h => n3 _ _ h fun z => by obtain ⟨l, hl⟩ := S1.bag.lst; rw [List.mem_singleton.mp z, hl] at h; cases h
      have q73 := ng q7
      have q83 := ng q8
      clear S1 q7 q8 n3 ng
      refine ⟨pl, rfl, ⟨_, .inl (.inl hys)⟩, ?_⟩
      refine r_loopL (xs := ys) (fun i σ' H' => ∃ kvs u9 u10, σ' = [some (V.ref b.a), some (V.ref d), some (V.ref d2), some (V.int now), some (V.int age), some (V.ref a), some s.vw, some (V.ref g7), some (V.ref g8), u9, u10, none, none, none] ∧ H' g7 = some (.dT kvs) ∧ H' g8 = some (.dT kvs) ∧ kvs.length ≤ i ∧ (∀ p ∈ kvs, GoodKV K H' F0.n F0.rs (Xn n * 30) (1000 * n) p.1 p.2) ∧ H' pl = some (.lst ys) ∧ (∀ x ∈ ys, PairAt K H' F0.n F0.rs (Xn n * 30) (1000 * n) x) ∧ ST cF cS cL cE cW cP K H H' b d d2 a fa age F0 c s s.tot s.st [] []) ⟨[], _, _, rfl, q73, q83, Nat.le_refl _, (fun _ z => nomatch z), hys, hall, S2⟩ ?_ ?_ ?_
      · rintro i σ H' _ ⟨_, _, _, _, _, _, _, _, h, _⟩
        exact .inl (.inl h)
      · clear S2 q73 q83 hys hall
        rintro i x σ H4 hx ⟨kvs, u9, u10, rfl, q7, q8, hkl, hgood, hys, hall, S⟩
        have hi := (List.getElem?_eq_some_iff.mp hx).1
        obtain ⟨q, t, kk, v, rfl, hq, ht, hgk⟩ := hall _ (List.mem_of_getElem? hx)
        have hq' : SqT K H4 q [.ref t, v] := .inl (.inl hq)
        walk_at "go"
        refine ⟨g7, _, rfl, DPut.t q7 ht (Nat.lt_of_le_of_lt (by omega : kvs.length ≤ 16) (by decide)), ?_⟩
        have ex7 : Ext [g7] H4 (upd H4 g7 (.dT (putK kvs kk v))) := Ext.refl.at_ List.mem_cons_self
        have m7 := no_dt q7
        have q8' := ex7 _ _ q8 fun z => n78 (List.mem_singleton.mp z).symm
        have ht' := tupR ex7 ht m7.1
        walk_at "go"
        refine ⟨g8, _, rfl, DPut.t q8' ht' (Nat.lt_of_le_of_lt (by omega : kvs.length ≤ 16) (by decide)), ?_⟩
        have ex8 : Ext [g8] (upd H4 g7 (.dT (putK kvs kk v))) (upd (upd H4 g7 (.dT (putK kvs kk v))) g8 (.dT (putK kvs kk v))) := Ext.refl.at_ List.mem_cons_self
        have m8 := no_dt q8'
        refine ⟨putK kvs kk v, _, _, rfl, by rw [upd_ne n78]; exact upd_same, upd_same, Nat.le_trans len_putK (by omega), fun p hp => ?_, ?_, fun x hx => ((hall x hx).f ex7 m7.1).f ex8 m8.1, (S.tab q7 h70).tab q8' h80⟩
        · rcases mem_putK hp with rfl | hp
          · exact (hgk.f ex7 m7.1).f ex8 m8.1
          · exact ((hgood p hp).f ex7 m7.1).f ex8 m8.1
        · exact ex8 _ _ (ex7 _ _ hys fun z => by rw [List.mem_singleton.mp z, q7] at hys; cases hys) fun z => by rw [List.mem_singleton.mp z, q8] at hys; cases hys
      · clear S2 q73 q83 hys hall
        rintro σ H4 ⟨kvs, u9, u10, rfl, q7, q8, hkl, hgood, hys, hall, S⟩
        have hval : ∀ p ∈ kvs, flatB p.2 = true ∨ ∃ c, p.2 = .ref c := fun p hp => (hgood p hp).same
        obtain ⟨lev, bit, came, hrd, ilev, icame⟩ := hrd_of hgood
        clear hys hall hgood hkl
        have iz : In 30 1000 (zq F0.z) := by
          cases h : F0.z with
          | win q => exact ok.iz q h
          | no => exact In.zero
          | tries m => exact In.zero
        have OB : ∀ st : St, In (Xn n * 30) 1000 st.lo → In (Xn n * 30) 1000 st.hi → OffB (Xn n * 30) (1000 * (n + 1)) age F0 s.man lev came s.tot st := fun st h1 h2 =>
          ⟨fun l u h => ⟨((mo (l, u) h).2.1.sz (by decide) (by decide : 27000 ≤ 2 ^ 15) (by decide : 1000 ≤ 2 ^ 10)).mono (by decide), ((mo (l, u) h).2.2.sz (by decide) (by decide : 27000 ≤ 2 ^ 15) (by decide : 1000 ≤ 2 ^ 10)).mono (by decide)⟩,
            fun r _ => ⟨((ilev r).sz (by decide) (by decide : 30 ≤ 2 ^ 5) (by decide : 1000 ≤ 2 ^ 10)).mono (by decide), (ilev r).le⟩, ok.ok.rt.l1, r5, ok.ok.w1, ok.ok.w2, (bd.it.up (Xn_1 n)).most (by omega), icame.most (by omega), (iz.up d30).most (by omega), (ok.ig.up d30).most (by omega), h1.most (by omega), h2.most (by omega), by omega, Nat.le_trans X30 p4, Nat.le_trans (sm (by omega)) p4, hage⟩
        walk_at "go"
        refine r_getS S.sd sd_state ?_
        walk_at "go"
        refine ⟨b, d, s.vst, now, s.vw, g7, age, F0, s.st, s.man, kvs, lev, bit, came, Xn n, 1000, rfl, S.row, S.sa, S.mn, q7, hrd, r5, bd.il, bd.ih, Xp, Nat.le_trans Xl p4, Nat.le_trans (sm (by decide)) p4, fun v5 H5 e5 sv => ?_⟩
        obtain ⟨sl, sh, sr⟩ := srch_in (sz := zn F0.z) (age := age) (now := now) (g := s.man.isNone) (al := F0.rs.all bit) (ok.ic.up (Xn_30 n)) bd.il bd.ih bd.ir
        have hgone : s.man = none → (srch F0.c (zn F0.z) age now s.man.isNone (F0.rs.all bit) s.st).rt = 0 := srch_gone
        have S5 := S.x0 e5
        walk_at "go"
        refine r_putS S5.sd (show 4 < 1000 by decide) ?_
        rw [se_state]
        have nd2 := no_dk S5.sd
        have ed2 : Ext [d2] H5 (upd H5 d2 (.dK (SideL a s.vt s.vw v5))) := Ext.refl.at_ List.mem_cons_self
        have S6 := S5.put (s' := { s with vst := v5, st := srch F0.c (zn F0.z) age now s.man.isNone (F0.rs.all bit) s.st }) S5.tt S5.mn sv
        have hsd := S5.sd
        have q76 := ed2 _ _ (e5 _ _ q7 fun z => nomatch z) fun z => by have := e5 _ _ q7 fun z => nomatch z; rw [List.mem_singleton.mp z, hsd] at this; cases this
        have q86 := ed2 _ _ (e5 _ _ q8 fun z => nomatch z) fun z => by have := e5 _ _ q8 fun z => nomatch z; rw [List.mem_singleton.mp z, hsd] at this; cases this
        have hr6 : Hrd K (upd H5 d2 (.dK (SideL a s.vt s.vw v5))) F0.n F0.rs kvs lev bit came := ⟨fun r hr => ((hrd.x0 e5).lv r hr).imp id fun ⟨v, h1, h2⟩ => ⟨v, h1, h2.f ed2 nd2.1⟩, hrd.bt, (hrd.x0 e5).cm.imp id fun ⟨v, h1, h2⟩ => ⟨v, h1, h2.f ed2 nd2.1⟩⟩
        have hst : ∃ st', st' = srch F0.c (zn F0.z) age now s.man.isNone (F0.rs.all bit) s.st := ⟨_, rfl⟩
        obtain ⟨st', hst⟩ := hst
        rw [← hst] at sl sh sr hgone S6
        have sl30 := sl.up (Xn_2 n)
        have sh30 := sh.up (Xn_2 n)
        have sr30 := sr.up (Xn_2 n)
        have hoffc : (srch F0.c (zn F0.z) age now s.man.isNone (F0.rs.all bit) s.st) = st' := hst.symm
        generalize upd H5 d2 (.dK (SideL a s.vt s.vw v5)) = H6 at *
        clear S S5 q7 q8 hrd sv nd2 ed2 hsd e5
        walk_at "go"
        refine ⟨b, d, d2, s.vw, g7, a, s.vt, s.vw, v5, F0, c, s.tot, st', s.man, kvs, lev, bit, came, Xn n * 30, 1000 * (n + 1), age, rfl, S6.row, S6.sd, S6.tt, S6.sa, S6.mn, q76, hr6, hk, hkz, OB st' sl30 sh30, hgone, fun r _ => ilev r, fun p hp => (mo p hp).2, fun vd H7 e7 ad => ?_⟩
        have idue := off_in (c := c) (rt := st'.rt) mo (fun r _ => ilev r) iz ok.ig icame bd.it sr30
        have S7 := (S6.x0 e7).add ad
        have q77 := e7 _ _ q76 fun z => nomatch z
        have q87 := e7 _ _ q86 fun z => nomatch z
        have hr7 := hr6.x0 e7
        clear S6 q76 q86 hr6 ad e7
        obtain ⟨dx, fs, vt0, hi, l9, lfl, lag, ltot, avt, lo, las, lno, lco⟩ := S7.snd.ins
        walk_at "go"
        refine offU hk ⟨a, now, s.vw, g8, .ref fa, age, F0, s.tot, s.st, b.a, s.man, kvs, lev, bit, came, Xn n * 30, 1000 * (n + 1), rfl, S7.snd, S7.flw, fun z => hfa (by cases z; rfl), hkz, S7.mn, q87, hr7, OB s.st (bd.il.up (Xn_1 n)) (bd.ih.up (Xn_1 n)), fun vo H8 e8 ao so => ?_⟩
        rw [hoffc] at ao so
        have S8 := S7.sn e8 hfa so
        have q78 := e8 _ _ q77 fun z => by rw [List.mem_singleton.mp z, hi] at q77; cases q77
        have q88 := e8 _ _ q87 fun z => by rw [List.mem_singleton.mp z, hi] at q87; cases q87
        clear S7 q77 q87 hr7 e8 so hi l9 lfl lag ltot avt lo las lno lco
        walk_at "go"
        refine k_like (ao.eqd 2 (S8.at_ 0 rfl rfl)) fun H9 e9 => ?_
        have S9 := S8.x0 e9
        have q79 := e9 _ _ q78 fun z => nomatch z
        have q89 := e9 _ _ q88 fun z => nomatch z
        clear S8 q78 q88 ao e9
        walk_at "run"
        refine ⟨g8, g7, kvs, rfl, rfl, q89, q79, hval, ?_⟩
        walk_at "run"
        refine ⟨.inr (.inr (.inl ⟨rfl, .inr ⟨_, q89⟩⟩)), g8, kvs, rfl, rfl, q89, ?_⟩
        have S10 := S9.tab (kvs' := []) q89 h80
        generalize upd H9 g8 (.dT []) = H10 at *
        clear S9 q79 q89 hval OB
        walk_at "go"
        refine r_mid (fun σ' H' => ∃ vk, σ' = [some (V.ref b.a), some (V.ref d), some (V.ref d2), some (V.int now), some (V.int age), some (V.ref a), some s.vw, some (V.ref g7), some (V.ref g8), u9, u10, some vd, some vk, none] ∧ ST cF cS cL cE cW cP K H H' b d d2 a fa age F0 c { s with vst := v5, st := st' } s.tot st' [vk, vd] [asksQ c s.man st', offQ c F0 s.man lev came s.tot st'.rt]) ?_ ?_
        · obtain ⟨L, vz, vg, vG, vD, vm, hL, lL, _, lkind, _⟩ := S10.row.row
          have zero : ∀ {H' : Hp} {p : Addr}, Ext [] H10 H' → H' p = none → asksQ c s.man st' = 0 → ST cF cS cL cE cW cP K H (upd H' p (.tup [.int 0, .int 1])) b d d2 a fa age F0 c { s with vst := v5, st := st' } s.tot st' [.ref p, vd] [asksQ c s.man st', offQ c F0 s.man lev came s.tot st'.rt] := fun {H' p} e hp hz => by
            rw [hz]
            exact (S10.x0 (e.trans (Ext.refl.new hp))).add ⟨p, rfl, tupS⟩
          walk_at "go"
          refine r_getS hL lkind ?_
          walk_at "go"
          refine r_dec (fun he => ?_) (fun he => ?_)
          · have hd' : F0.d = "probe" := V.str.inj he
            obtain rfl := kd_probe hk hd'
            walk_at "go"
            rename_i pe hpe
            have e11 : Ext [] H10 (upd H10 pe (.tup [])) := Ext.refl.new hpe
            refine ne_man (S10.mn.x0 e11) tupS ?_
            have S11 := S10.x0 e11
            cases hman : s.man with
            | none =>
              walk_at "run"
              rename_i p hp
              have := zero e11 hp (by rw [hman]; rfl)
              rw [hman] at this
              exact ⟨_, rfl, this⟩
            | some pr =>
              walk_at "run"
              refine r_getS S11.sd sd_state ?_
              walk_at "run"
              refine ⟨v5, st', Xn n * 30, 1000, rfl, S11.sa, sl30, sh30, by omega, Nat.le_trans X30 p4, Nat.le_trans (sm (by decide)) p4, fun vk H12 e12 ak => ?_⟩
              walk_at "run"
              refine ⟨vk, rfl, ?_⟩
              have := (S11.x0 e12).add ak
              rw [hman] at this
              exact this
          · have hd' : ¬ F0.d = "probe" := fun z => he (by rw [z])
            walk_at "run"
            rename_i p hp
            exact ⟨_, rfl, zero Ext.refl hp (kd_not hk hd')⟩
        · clear S10
          rintro σ H11 ⟨vk, rfl, S⟩
          obtain ⟨dx, fs, vt0, hi, l9, lfl, lag, ltot, avt, lo, las, lno, lco⟩ := S.snd.ins
          have M4a : 2 * 1000 ≤ 2 ^ 400 := Nat.le_trans (sm (by decide)) p4
          walk_at "go"
          refine askU ⟨a, s.vw, .ref fa, age, F0, s.tot, st', b.a, s.man, Xn n * 30, 1000, rfl, S.snd, S.mn, sl30, sh30, by omega, Nat.le_trans X30 p4, M4a, fun u H12 e12 au => ?_⟩
          have S1 := S.x0 e12
          have hi1 := e12 _ _ hi fun z => nomatch z
          walk_at "go"
          refine k_like (au.eqd 2 (S1.at_ 0 rfl rfl)) fun H13 e13 => ?_
          have S2 := S1.x0 e13
          have hi2 := e13 _ _ hi1 fun z => nomatch z
          have avt2 := (avt.x0 e12).x0 e13
          clear S S1 hi hi1 avt au e12 e13
          walk_at "run"
          refine r_getS S2.sd sd_total ?_
          walk_at "run"
          refine k_like (avt2.eqd 2 S2.tt) fun H14 e14 => ?_
          have S3 := S2.x0 e14
          clear S2 hi2 avt2 e14 l9 lfl lag ltot lo las lno lco
          walk_at "run"
          refine r_mid (fun σ' H' => ∃ v1 q1, σ' = [some (V.ref b.a), some (V.ref d), some (V.ref d2), some (V.int now), some (V.int age), some (V.ref a), some s.vw, some (V.ref g7), some (V.ref g8), u9, u10, some vd, some vk, some v1] ∧ In (Xn (n + 1)) 1000 q1 ∧ ST cF cS cL cE cW cP K H H' b d d2 a fa age F0 c { s with vst := v5, st := st' } s.tot st' [v1, vk] [q1, asksQ c s.man st']) ?_ ?_
          · walk_at "run"
            refine k_draw S3.bag (by omega) (by decide) fun y H15 y0 y1 b15 n15 => ?_
            have S4 := S3.bg b15 n15
            walk_at "run"
            refine r_dec (fun _ => ?_) (fun _ => ?_)
            · walk_at "run"
              exact ⟨vd, _, rfl, idue.up (Xn_3 n), { S4 with ams := Ams.cons (S4.at_ 1 rfl rfl) (Ams.cons (S4.at_ 0 rfl rfl) Ams.nil) }⟩
            · walk_at "run"
              refine k_part S4.bag (S4.at_ 1 rfl rfl) idue.nn (zX (by decide) idue) fun v1 q1 H16 a1 pq b16 n16 => ?_
              have S5 := S4.bg b16 n16
              have i1 := pq.in_ idue
              rw [Xn_s] at i1
              walk_at "run"
              exact ⟨v1, q1, rfl, i1, { S5 with ams := Ams.cons a1 (Ams.cons (S5.at_ 0 rfl rfl) Ams.nil) }⟩
          · clear S3 idue
            rintro σ H15 ⟨v1, q1, rfl, i1, S⟩
            have bit1 : In (Xn (n + 1)) (1000 * n) s.tot := by rw [← Xn_s]; exact (bd.it.up (Xn_1 n)).up (Nat.dvd_mul_right _ _)
            have bd1 : ∀ {t : Rat}, In (Xn (n + 1)) (1000 * (n + 1)) t → Bd (n + 1) t st' := fun h => ⟨h, sl30.up (Xn_3 n), sh30.up (Xn_3 n), sr30.up (Xn_3 n)⟩
            walk_at "go"
            refine r_mid (fun σ' H' => ∃ s' : SV, σ' = [some (V.ref b.a), some (V.ref d), some (V.ref d2), some (V.int now), some (V.int age), some (V.ref a), some s.vw, some (V.ref g7), some (V.ref g8), u9, u10, some vd, some vk, some v1] ∧ s'.vw = s.vw ∧ s'.man = s.man ∧ s'.st = st' ∧ Bd (n + 1) s'.tot st' ∧ ST cF cS cL cE cW cP K H H' b d d2 a fa age F0 c s' s'.tot st' [vk] [asksQ c s.man st']) ?_ ?_
            · obtain ⟨ag_, rfl, hag⟩ := S.at_ 0 rfl rfl
              obtain ⟨dx, fs, vt0, hi, l9, lfl, lag, ltot, avt, lo, las, lno, lco⟩ := S.snd.ins
              walk_at "go"
              generalize (10 : Int) ^ Int.toNat 20 = B
              refine r_dec (fun _ => ?_) (fun _ => ?_)
              · walk_at "go"
                refine ⟨a, _, c, dx, fs, vt0, .ref ag_, s.tot, q1, Xn (n + 1), 1000 * (n + 1), rfl, hC, hi, l9, ltot, avt, S.at_ 0 rfl rfl, bit1.most (by omega), i1.most (by omega), Xp1, Nat.le_trans Xl1 p4, Nat.le_trans (sm (by omega)) p4, fun H16 v' e16 h16 a16 => ?_⟩
                have S1 := S.sn e16 hfa (S.snd.put hi e16 h16 a16)
                walk_at "run"
                refine r_getS S1.sd sd_total ?_
                walk_at "run"
                refine k_two S1.tt (S1.at_ 0 rfl rfl) (zX1 (by omega) bit1) (zX1 (by decide) i1) bit1.nn i1.nn trivial fun v2 H17 e17 a17 => ?_
                have S2 := S1.x0 e17
                walk_at "run"
                refine r_putS S2.sd (show 4 < 1000 by decide) ?_
                rw [se_total]
                have S3 := S2.put (s' := { s with vst := v5, st := st', vt := v2, tot := s.tot + q1 }) a17 S2.mn S2.sa
                have itt : In (Xn (n + 1)) (1000 * (n + 1)) (s.tot + q1) := (bit1.add i1).most (by omega)
                exact ⟨{ s with vst := v5, st := st', vt := v2, tot := s.tot + q1 }, rfl, rfl, rfl, rfl, bd1 itt, { S3 with ams := Ams.cons (S3.at_ 1 rfl rfl) Ams.nil }⟩
              · walk_at "go"
                exact ⟨{ s with vst := v5, st := st' }, rfl, rfl, rfl, rfl, bd1 (bit1.most (by omega)), { S with ams := Ams.cons (S.at_ 1 rfl rfl) Ams.nil }⟩
            · clear S
              rintro σ H16 ⟨s', rfl, e1, e2, e3, bd', S⟩
              obtain ⟨dx, fs, vt0, hi, l9, lfl, lag, ltot, avt, lo, las, lno, lco⟩ := S.snd.ins
              walk_at "go"
              refine r_getS S.sd sd_total ?_
              walk_at "go"
              refine k_like (avt.eqd 2 S.tt) fun H17 e17 => ?_
              have S1 := S.x0 e17
              have hi1 := e17 _ _ hi fun z => nomatch z
              walk_at "run"
              refine askU ⟨a, s.vw, .ref fa, age, F0, s'.tot, st', b.a, s.man, Xn n * 30, 1000, rfl, S1.snd, by have := S1.mn; rw [e1, e2] at this; exact this, sl30, sh30, by omega, Nat.le_trans X30 p4, M4a, fun u H18 e18 au => ?_⟩
              have S2 := S1.x0 e18
              walk_at "run"
              refine k_like (au.eqd 2 (S2.at_ 0 rfl rfl)) fun H19 e19 => ?_
              have S3 := (S2.x0 e19).drop
              walk_at "run"
              refine k s' H19 (by rw [e3]; exact S3) (by rw [e2]; exact mo) (by rw [e3]; exact bd')
end
end Yk

set_option maxHeartbeats 32000000
namespace Yk
open PySem PySem.Spec PyProof.Rows L2

local macro_rules | `(tactic| walk_at "st") => `(tactic| first
  | with_reducible refine' r_tAt ?_
  | ((with_reducible refine' r_fld ?h1 ?h2 ?h3); (case h1 => first | assumption | exact upd_same); (case h2 => first | walk_at "lk" | rfl))
  | with_reducible refine' r_sAt ?_
  | ((with_reducible refine' r_putU ?h1 ?h2); (case h1 => (repeat refine putF_lt ?_); decide))
  | ((with_reducible refine' r_put ?h1 ?h2 ?h3); (case h1 => first | assumption | exact upd_same); (case h2 => (repeat refine putF_lt ?_); decide))
  | with_reducible refine' r_tMt ?_
  | ((with_reducible refine' r_met ?h1 ?h2 ?h3); (case h1 => first | assumption | exact upd_same); (case h2 => first | walk_at "lk" | rfl))
  | with_reducible refine' r_tCr ?_
  | with_reducible refine' r_tCrK ?_
  | with_reducible refine' r_chain ?_)
local macro_rules | `(tactic| walk_at "st") => `(tactic| first
  | with_reducible refine' r_dget ?_
  | with_reducible refine' r_dc ?_
  | with_reducible refine' r_iVals ?_
  | with_reducible refine' r_dnotin ?_
  | with_reducible refine' r_din ?_
  | with_reducible refine' r_iItems ?_
  | with_reducible refine' r_iKeysT ?_
  | with_reducible refine' r_tget1 ?_
  | with_reducible refine' r_tget2 ?_
  | with_reducible refine' r_dput ?_
  | with_reducible refine' r_tPr ?_
  | ((with_reducible refine' r_prp2 ?h1 ?h2); (case h1 => first | assumption | exact upd_same))
  | with_reducible refine' r_par3 ?_
  | ((with_reducible refine' r_dnT ?_); (intro np hnp))
  | ((with_reducible refine' r_dnK ?_); (intro np hnp)))
local macro_rules | `(tactic| walk_at "st") => `(tactic| first
  | with_reducible refine' r_tAtU ?_
  | ((with_reducible refine' r_fldU ?h0 ?h1 ?h2 ?h3); (case h1 => first | assumption | exact upd_same); (case h0 => first | assumption | walk_at "mem"); (case h2 => first | walk_at "lk" | rfl))
  | with_reducible refine' r_sAtU ?_
  | ((with_reducible refine' r_putUV ?h0 ?h2 ?h3); (case h0 => first | assumption | walk_at "mem"); (case h2 => (repeat refine putF_lt ?_); decide))
  | ((with_reducible refine' r_putUU ?h0 ?h1 ?h2 ?h3); (case h1 => first | assumption | exact upd_same); (case h0 => first | assumption | walk_at "mem"); (case h2 => (repeat refine putF_lt ?_); decide))
  | with_reducible refine' r_tMtU ?_
  | ((with_reducible refine' r_metU ?h0 ?h1 ?h2 ?h3); (case h1 => first | assumption | exact upd_same); (case h0 => first | assumption | walk_at "mem"); (case h2 => first | walk_at "lk" | rfl)))
local macro_rules | `(tactic| walk_at "mem") => `(tactic| (simp only [List.mem_cons, Prod.mk.injEq, List.not_mem_nil, or_false, true_and, and_true, true_or, or_true, reduceCtorEq, and_false, false_or]))
/-! The law of senders. -/
local macro_rules | `(tactic| walk_at "lk") => `(tactic| assumption)
local macro_rules | `(tactic| walk_at "st") => `(tactic| ((with_reducible refine' r_metW ?h0 ?h1 ?h2 ?h3); (case h1 => first | assumption | exact upd_same); (case h0 => assumption); (case h2 => assumption)))
structure SdAt (cS cL cE cW cP : Addr) (K : PySem.W.Frag) (H : Hp) (na fa : Addr) (age : Int) (F : FlowD) (c : Kd) (n : Nat) (d2 a : Addr) (s : SV) : Prop where
  sd : H d2 = some (.dK (SideL a s.vt s.vw s.vst))
  tt : Am K H s.vt s.tot
  mn : ManIs K H s.vw s.man
  sa : StateAt K H s.vst s.st
  snd : SndAt cS cL cE cW cP K H na a (.ref fa) age F s.tot s.st c
  mo : Mo s.man
  bd : Bd n s.tot s.st
def RL (K : PySem.W.Frag) (H : Hp) (ls a : Addr) (xs : List V) : Prop := (Rd H a (.lst xs) ∧ a ≠ ls) ∨ ∀ H', SqL K H' a xs
theorem RL.sq {K : PySem.W.Frag} {H : Hp} {ls a : Addr} {xs : List V} (h : RL K H ls a xs) : SqL K H a xs := h.elim (fun h => .inl h.1) fun h => h H
theorem RL.new {K : PySem.W.Frag} {H H1 : Hp} {ls a : Addr} {xs : List V} (h : SqL K H a xs) (hn : H ls = none) (e : Ext [] H H1) : RL K H1 ls a xs := by
  rcases h with (h | ⟨o, h⟩) | h
  · exact .inl ⟨.inl (e _ _ h fun z => nomatch z), fun z => by rw [z, hn] at h; cases h⟩
  · exact .inl ⟨.inr ⟨o, e _ _ h fun z => nomatch z⟩, fun z => by rw [z, hn] at h; cases h⟩
  · exact .inr fun H' => .inr h
def RowL (K : PySem.W.Frag) (H : Hp) (b : Bag) (d : Addr) (F : FlowD) (ls : Addr) : Prop := ∃ (ra ba : Addr) (xs : List V) (vz vg vG vD vm : V), H d = some (.dK (RowFs F.n (.ref ra) F.d F.w F.y vg vG vD vm F.b vz (.ref ba))) ∧
  RL K H ls ra (F.rs.map V.str) ∧ RL K H ls ba xs ∧ b.a ≠ ra ∧ b.a ≠ ba ∧ Ams K H xs F.bs ∧ SizeIs K H vz F.z ∧ Am K H vg F.l ∧ Am K H vG F.c ∧ Am K H vD F.g ∧ ManIs K H vm F.man
theorem RowL.at_ {K : PySem.W.Frag} {H : Hp} {b : Bag} {d ls : Addr} {F : FlowD} (h : RowL K H b d F ls) : FRowAt K H b d F := by
  obtain ⟨ra, ba, xs, vz, vg, vG, vD, vm, h0, h1, h2, n1, n2, h3, h4, h5, h6, h7, h8⟩ := h
  exact ⟨ra, ba, xs, vz, vg, vG, vD, vm, h0, h1.sq, h2.sq, n1, n2, h3, h4, h5, h6, h7, h8⟩
theorem lstM {S : List Addr} {K : PySem.W.Frag} {H H1 : Hp} {a : Addr} {xs : List V} (e : Ext S H H1) (h : SqL K H a xs) (hs : a ∈ S → ∃ o, H a = some o ∧ (∀ xs, o ≠ .lst xs) ∧ ∀ u xs, o ≠ .frz u (.lst xs)) : SqL K H1 a xs := by
  rcases h with (h | ⟨o, h⟩) | h
  · exact .inl (.inl (e a _ h fun z => by obtain ⟨o, q, n, _⟩ := hs z; rw [h] at q; cases q; exact n _ rfl))
  · exact .inl (.inr ⟨o, e a _ h fun z => by obtain ⟨o, q, _, n⟩ := hs z; rw [h] at q; cases q; exact n _ _ rfl⟩)
  · exact .inr h
def OwnLst (H : Hp) (na ls : Addr) (S : List Addr) : Prop := ∀ x ∈ S, x = na ∨ x = ls ∨ ∃ o, H x = some o ∧ (∀ xs, o ≠ .lst xs) ∧ ∀ u xs, o ≠ .frz u (.lst xs)
theorem RL.f {S : List Addr} {K : PySem.W.Frag} {H H1 : Hp} {na ls a : Addr} {xs : List V} (h : RL K H ls a xs) (e : Ext S H H1) (nl : OwnLst H na ls S) (n1 : na ≠ a) : RL K H1 ls a xs := by
  rcases h with ⟨h | ⟨o, h⟩, m⟩ | h
  · exact .inl ⟨.inl (e _ _ h fun z => by obtain ⟨o, q, n, _⟩ := ((nl _ z).resolve_left n1.symm).resolve_left m; rw [h] at q; cases q; exact n _ rfl), m⟩
  · exact .inl ⟨.inr ⟨o, e _ _ h fun z => by obtain ⟨o, q, _, n⟩ := ((nl _ z).resolve_left n1.symm).resolve_left m; rw [h] at q; cases q; exact n _ _ rfl⟩, m⟩
  · exact .inr h
theorem RowL.f {S : List Addr} {K : PySem.W.Frag} {H H1 : Hp} {b : Bag} {d ls : Addr} {F : FlowD} (h : RowL K H b d F ls) (e : Ext S H H1) (ns : NoTup H S) (nl : OwnLst H b.a ls S) (hd : d ∉ S) : RowL K H1 b d F ls := by
  obtain ⟨ra, ba, xs, vz, vg, vG, vD, vm, h0, h1, h2, n1, n2, h3, h4, h5, h6, h7, h8⟩ := h
  exact ⟨ra, ba, xs, vz, vg, vG, vD, vm, e _ _ h0 hd, h1.f e nl n1, h2.f e nl n2, n1, n2, AmsF e ns h3, h4.f e ns, h5.f e ns, h6.f e ns, h7.f e ns, h8.f e ns⟩
theorem NoLst.own {H : Hp} {na ls : Addr} {S : List Addr} (h : NoLst H S) : OwnLst H na ls S := fun x hx => .inr (.inr (h x hx))
structure LW (cF cS cL cE cW cP : Addr) (K : PySem.W.Frag) (H : Hp) (b : Bag) (d fa : Addr) (age : Int) (F : FlowD) (c : Kd) (ls ap : Addr) (Ds As : List Addr) (tk : Nat → Nat) (q q2 : Rat) (vp : V) : Prop where
  bag : BagAt K H b
  row : RowL K H b d F ls
  flw : FlowAt cF K H (.ref fa) F
  lsH : H ls = some (.lst (Ds.map V.ref))
  nls : b.a ≠ ls
  sides : ∀ i d2 a, Ds[i]? = some d2 → As[i]? = some a → ∃ s, SdAt cS cL cE cW cP K H b.a fa age F c (tk i) d2 a s
  pl : SndAt cS cL cE cW cP K H b.a ap (.ref fa) age F q (St0 0) .no
  vp : Am K H vp q2
  len : Ds.length = As.length
  nd : Ds.Nodup
  na : As.Nodup
  fA : fa ∉ As
  pA : ap ∉ As
  fp : fa ≠ ap
  dD : d ∉ Ds
section
variable {cF cS cL cE cW cP : Addr} {K : PySem.W.Frag} {H H1 : Hp} {b : Bag} {d fa na : Addr} {age : Int} {F : FlowD} {c : Kd} {ls ap d2 a : Addr} {Ds As : List Addr} {tk tk' : Nat → Nat} {q q' q2 q2' : Rat} {vp vp' : V} {n : Nat} {s : SV}
theorem SdAt.f {S : List Addr} (h : SdAt cS cL cE cW cP K H na fa age F c n d2 a s) (e : Ext S H H1) (ns : NoTup H S) (nl : NaLst H na S) (h1 : d2 ∉ S) (h2 : a ∉ S) : SdAt cS cL cE cW cP K H1 na fa age F c n d2 a s :=
  ⟨e _ _ h.sd h1, h.tt.f e ns, ManIs.f e ns h.mn, h.sa.f e ns, h.snd.f e ns nl h2, h.mo, h.bd⟩
theorem LW.f {S : List Addr} (h : LW cF cS cL cE cW cP K H b d fa age F c ls ap Ds As tk q q2 vp) (e : Ext S H H1) (ns : NoTup H S) (nl : NaLst H b.a S) (h1 : ∀ x ∈ Ds, x ∉ S) (h2 : ∀ x ∈ As, x ∉ S) (h3 : fa ∉ S) (h4 : ap ∉ S) (h5 : ls ∉ S) (b1 : BagAt K H1 b) (r1 : RowL K H1 b d F ls) : LW cF cS cL cE cW cP K H1 b d fa age F c ls ap Ds As tk q q2 vp :=
  ⟨b1, r1, h.flw.f e ns h3, e _ _ h.lsH h5, h.nls, fun i d2 a g1 g2 => let ⟨s, hs⟩ := h.sides i d2 a g1 g2; ⟨s, hs.f e ns nl (h1 _ (List.mem_of_getElem? g1)) (h2 _ (List.mem_of_getElem? g2))⟩, h.pl.f e ns nl h4, h.vp.f e ns, h.len, h.nd, h.na, h.fA, h.pA, h.fp, h.dD⟩
theorem LW.x0 (h : LW cF cS cL cE cW cP K H b d fa age F c ls ap Ds As tk q q2 vp) (e : Ext [] H H1) : LW cF cS cL cE cW cP K H1 b d fa age F c ls ap Ds As tk q q2 vp :=
  h.f e (fun _ z => nomatch z) (fun _ z => nomatch z) (fun _ _ z => nomatch z) (fun _ _ z => nomatch z) (fun z => nomatch z) (fun z => nomatch z) (fun z => nomatch z) (h.bag.x0 e) (h.row.f e (fun _ z => nomatch z) (fun _ z => nomatch z) (fun z => nomatch z))
theorem LW.dk (h : LW cF cS cL cE cW cP K H b d fa age F c ls ap Ds As tk q q2 vp) {x : Addr} (hx : x ∈ Ds) : ∃ L, H x = some (.dK L) := by
  obtain ⟨i, hi⟩ := List.mem_iff_getElem?.mp hx
  have hl : i < As.length := by rw [← h.len]; exact (List.getElem?_eq_some_iff.mp hi).1
  obtain ⟨s, hs⟩ := h.sides i x _ hi (List.getElem?_eq_getElem hl)
  exact ⟨_, hs.sd⟩
theorem LW.ins (h : LW cF cS cL cE cW cP K H b d fa age F c ls ap Ds As tk q q2 vp) {x : Addr} (hx : x ∈ As) : ∃ C dx fs, H x = some (.ins C dx fs) := by
  obtain ⟨i, hi⟩ := List.mem_iff_getElem?.mp hx
  have hl : i < Ds.length := by rw [h.len]; exact (List.getElem?_eq_some_iff.mp hi).1
  obtain ⟨s, hs⟩ := h.sides i _ x (List.getElem?_eq_getElem hl) hi
  exact hs.snd.insA
theorem LW.bg (h : LW cF cS cL cE cW cP K H b d fa age F c ls ap Ds As tk q q2 vp) (b1 : BagAt K H1 b) (e : Ext [b.a] H H1) : LW cF cS cL cE cW cP K H1 b d fa age F c ls ap Ds As tk q q2 vp := by
  obtain ⟨lb, hlb⟩ := h.bag.lst
  obtain ⟨dy, gs, hf⟩ := h.flw.insA
  obtain ⟨C, dx, fs, hp⟩ := h.pl.insA
  refine h.f e (no_lst hlb) na_self (fun x hx z => ?_) (fun x hx z => ?_) (fun z => ?_) (fun z => ?_) (fun z => h.nls (List.mem_singleton.mp z).symm) b1 (h.row.f e (no_lst hlb) (fun x hx => .inl (List.mem_singleton.mp hx)) fun z => ?_)
  · obtain ⟨L, hL⟩ := h.dk hx; rw [List.mem_singleton.mp z, hlb] at hL; cases hL
  · obtain ⟨C, dx, fs, hL⟩ := h.ins hx; rw [List.mem_singleton.mp z, hlb] at hL; cases hL
  · rw [List.mem_singleton.mp z, hlb] at hf; cases hf
  · rw [List.mem_singleton.mp z, hlb] at hp; cases hp
  · obtain ⟨L, hL⟩ := h.row.at_.dkE; rw [List.mem_singleton.mp z, hlb] at hL; cases hL
/-- a step of the j-th side -/
theorem LW.step {j : Nat} {s0 s' : SV} (h : LW cF cS cL cE cW cP K H b d fa age F c ls ap Ds As tk q q2 vp) (hd : Ds[j]? = some d2) (ha : As[j]? = some a) (h0 : SdAt cS cL cE cW cP K H b.a fa age F c (tk j) d2 a s0) (g : ST cF cS cL cE cW cP K H H1 b d d2 a fa age F c s' s'.tot s'.st [] []) (mo : Mo s'.man) (bd : Bd (tk j + 1) s'.tot s'.st) :
    LW cF cS cL cE cW cP K H1 b d fa age F c ls ap Ds As (fun i => if i = j then tk j + 1 else tk i) q q2 vp := by
  have e := g.ext
  obtain ⟨lb, hlb⟩ := h.bag.lst
  have hsd := h0.sd
  obtain ⟨Ca, da, fa_, hia⟩ := h0.snd.insA
  have ns : NoTup H [b.a, d2, a] := ((no_lst hlb).app (no_dk hsd).1).app (no_ins hia).1
  have nl : NaLst H b.a [b.a, d2, a] := fun x hx => by
    simp only [List.mem_cons, List.not_mem_nil, or_false] at hx
    rcases hx with rfl | rfl | rfl
    · exact .inl rfl
    · exact .inr ⟨_, hsd, fun _ z => nomatch z⟩
    · exact .inr ⟨_, hia, fun _ z => nomatch z⟩
  have nlst : ∀ {x : Addr}, x ∈ [b.a, d2, a] → x = b.a ∨ x = d2 ∨ x = a := fun hx => by simpa using hx
  obtain ⟨Cp, dp, fp, hip⟩ := h.pl.insA
  have hls := h.lsH
  have nol : OwnLst H b.a ls [b.a, d2, a] := fun x hx => by
    rcases nlst hx with rfl | rfl | rfl
    · exact .inl rfl
    · exact .inr (.inr ⟨_, hsd, (fun _ z => nomatch z), fun _ _ z => nomatch z⟩)
    · exact .inr (.inr ⟨_, hia, (fun _ z => nomatch z), fun _ _ z => nomatch z⟩)
  obtain ⟨L0, hL0⟩ := h.row.at_.dkE
  refine ⟨g.bag, h.row.f e ns nol fun z => ?_, g.flw, e _ _ hls fun z => ?_, h.nls, fun i d3 a3 g1 g2 => ?_, h.pl.f e ns nl fun z => ?_, h.vp.f e ns, h.len, h.nd, h.na, h.fA, h.pA, h.fp, h.dD⟩
  · rcases nlst z with z | z | z
    · rw [z, hlb] at hL0; cases hL0
    · exact h.dD (by rw [z]; exact List.mem_of_getElem? hd)
    · rw [z, hia] at hL0; cases hL0
  · rcases nlst z with z | z | z
    · exact h.nls z.symm
    · rw [z, hsd] at hls; cases hls
    · rw [z, hia] at hls; cases hls
  · by_cases hij : i = j
    · subst hij
      rw [hd] at g1
      rw [ha] at g2
      cases g1
      cases g2
      rw [if_pos rfl]
      exact ⟨s', g.sd, g.tt, g.mn, g.sa, g.snd, mo, bd⟩
    · rw [if_neg hij]
      obtain ⟨s, hs⟩ := h.sides i d3 a3 g1 g2
      have hs1 := hs.sd
      obtain ⟨C3, x3, f3, hs2⟩ := hs.snd.insA
      refine ⟨s, hs.f e ns nl (fun z => ?_) fun z => ?_⟩
      · rcases nlst z with z | z | z
        · rw [z, hlb] at hs1; cases hs1
        · exact hij ((List.getElem?_inj (List.getElem?_eq_some_iff.mp g1).1 h.nd).mp (by rw [g1, hd, z]))
        · rw [z, hia] at hs1; cases hs1
      · rcases nlst z with z | z | z
        · rw [z, hlb] at hs2; cases hs2
        · rw [z, hsd] at hs2; cases hs2
        · exact hij ((List.getElem?_inj (List.getElem?_eq_some_iff.mp g2).1 h.na).mp (by rw [g2, ha, z]))
  · rcases nlst z with z | z | z
    · rw [z, hlb] at hip; cases hip
    · rw [z, hsd] at hip; cases hip
    · exact h.pA (by rw [z]; exact List.mem_of_getElem? ha)
theorem LW.st {j : Nat} (h : LW cF cS cL cE cW cP K H b d fa age F c ls ap Ds As tk q q2 vp) (hd : Ds[j]? = some d2) (h0 : SdAt cS cL cE cW cP K H b.a fa age F c n d2 a s) : ST cF cS cL cE cW cP K H H b d d2 a fa age F c s s.tot s.st [] [] :=
  ⟨h.bag, h.row.at_, h.flw, h0.sd, h0.tt, h0.mn, h0.sa, h0.snd, Ams.nil, Ext.refl, fun z => h.dD (by rw [z]; exact List.mem_of_getElem? hd)⟩
/-- the plain sender notes -/
theorem LW.pnote (h : LW cF cS cL cE cW cP K H b d fa age F c ls ap Ds As tk q q2 vp) (e : Ext [ap] H H1) (hs : SndAt cS cL cE cW cP K H1 b.a ap (.ref fa) age F q' (St0 0) .no) : LW cF cS cL cE cW cP K H1 b d fa age F c ls ap Ds As tk q' q2 vp := by
  obtain ⟨Cp, dp, fp, hip⟩ := h.pl.insA
  have n := no_ins hip
  obtain ⟨L, hL⟩ := h.row.at_.dkE
  have hls := h.lsH
  have g := h.sides
  have hdd : ∀ x ∈ Ds, x ∉ [ap] := fun x hx z => by obtain ⟨L, hL⟩ := h.dk hx; rw [List.mem_singleton.mp z, hip] at hL; cases hL
  have haa : ∀ x ∈ As, x ∉ [ap] := fun x hx z => h.pA (by rw [← List.mem_singleton.mp z]; exact hx)
  refine ⟨h.bag.f e n.2, h.row.f e n.1 n.2.own (fun z => by rw [List.mem_singleton.mp z, hip] at hL; cases hL), h.flw.f e n.1 (fun z => h.fp (List.mem_singleton.mp z)), e _ _ hls (fun z => by rw [List.mem_singleton.mp z, hip] at hls; cases hls), h.nls, fun i d2 a g1 g2 => ?_, hs, h.vp.f e n.1, h.len, h.nd, h.na, h.fA, h.pA, h.fp, h.dD⟩
  obtain ⟨s, hs⟩ := g i d2 a g1 g2
  exact ⟨s, hs.f e n.1 (nolst_na n.2) (hdd _ (List.mem_of_getElem? g1)) (haa _ (List.mem_of_getElem? g2))⟩
theorem LW.sum (h : LW cF cS cL cE cW cP K H b d fa age F c ls ap Ds As tk q q2 vp) (hv : Am K H vp' q2') : LW cF cS cL cE cW cP K H b d fa age F c ls ap Ds As tk q q2' vp' := { h with vp := hv }
theorem LW.tks (h : LW cF cS cL cE cW cP K H b d fa age F c ls ap Ds As tk q q2 vp) (ht : ∀ i, i < Ds.length → tk i = tk' i) : LW cF cS cL cE cW cP K H b d fa age F c ls ap Ds As tk' q q2 vp :=
  { h with sides := fun i d2 a g1 g2 => ht i (List.getElem?_eq_some_iff.mp g1).1 ▸ h.sides i d2 a g1 g2 }
theorem SndAt.fl {na : Addr} {vf : V} {tot : Rat} {st : St} {y : Addr} {r : List V} {L : List (Key × V)} (h : SndAt cS cL cE cW cP K H na a vf age F tot st c) (hls : H ls = some (.lst (.ref y :: r))) (hy : H y = some (.dK L)) (r1 : 0 < F.rs.length) (e : Ext [ls] H H1) : SndAt cS cL cE cW cP K H1 na a vf age F tot st c := by
  have ns := no_lst hls
  obtain ⟨C, dx, fs, hi⟩ := h.insA
  have ha : a ∉ [ls] := fun z => by rw [List.mem_singleton.mp z, hls] at hi; cases hi
  have key : ∀ {l : Addr} {ts : List V} {ks : List (List Key)}, H l = some (.lst ts) → KeysAt H ts ks → 0 < ks.length → l ∉ [ls] := fun {l ts ks} hl hk h0 z => by
    rw [List.mem_singleton.mp z, hls] at hl
    cases hl
    obtain ⟨t, e1, e2⟩ := hk.2 0 (.ref y) _ rfl (List.getElem?_eq_getElem h0)
    cases e1
    rw [hy] at e2
    cases e2
  cases c with
  | no => obtain ⟨dx, vt, h1, h2⟩ := h; exact ⟨dx, vt, e _ _ h1 ha, h2.f e ns⟩
  | lv => obtain ⟨dx, vt, l, ts, h1, h2, h3, h4, h5⟩ := h; exact ⟨dx, vt, l, ts, e _ _ h1 ha, h2.f e ns, e _ _ h3 (key h3 h5 (by rw [List.length_map]; exact r1)), h4, h5.f e ns⟩
  | eg => obtain ⟨dx, vt, vd, h1, h2, h3⟩ := h; exact ⟨dx, vt, vd, e _ _ h1 ha, h2.f e ns, h3.f e ns⟩
  | wi => obtain ⟨dx, vt, t, h1, h2, h3⟩ := h; exact ⟨dx, vt, t, e _ _ h1 ha, h2.f e ns, tupR e h3 ns⟩
  | pr => obtain ⟨dx, vt, l, ts, vlo, vhi, vr, h1, h2, h3, h4, h5, h6, h7, h8⟩ := h; exact ⟨dx, vt, l, ts, vlo, vhi, vr, e _ _ h1 ha, h2.f e ns, e _ _ h3 (key h3 h5 (by rw [List.length_map]; exact r1)), h4, h5.f e ns, h6.f e ns, h7.f e ns, h8.f e ns⟩
/-- a copy of a side -/
theorem LW.push (h : LW cF cS cL cE cW cP K H b d fa age F c ls ap Ds As tk q q2 vp) {Hb : Hp} (hb0 : BagAt K Hb b) (hl0 : Hb ls = none) (r1 : 0 < F.rs.length) (D1 : 0 < Ds.length) (h0 : SdAt cS cL cE cW cP K H b.a fa age F c n d2 a s) (nd : d2 ∉ Ds) (na : a ∉ As) (nf : fa ≠ a) (np : ap ≠ a) (ndd : d ≠ d2) (ht : ∀ i, i ≤ Ds.length → tk i = n) :
    LW cF cS cL cE cW cP K (upd H ls (.lst (Ds.map V.ref ++ [.ref d2]))) b d fa age F c ls ap (Ds ++ [d2]) (As ++ [a]) tk q q2 vp := by
  have e : Ext [ls] H (upd H ls (.lst (Ds.map V.ref ++ [.ref d2]))) := Ext.refl.at_ List.mem_cons_self
  have hls := h.lsH
  have ns := no_lst hls
  obtain ⟨y, r, hyr⟩ : ∃ y r, Ds = y :: r := by
    cases Ds with
    | nil => exact absurd D1 (by decide)
    | cons y r => exact ⟨y, r, rfl⟩
  obtain ⟨L, hy⟩ := h.dk (x := y) (by rw [hyr]; exact List.mem_cons_self)
  have hls2 : H ls = some (.lst (.ref y :: r.map V.ref)) := by rw [hls, hyr]; rfl
  have sdf : ∀ {m : Nat} {d3 a3 : Addr} {s3 : SV}, SdAt cS cL cE cW cP K H b.a fa age F c m d3 a3 s3 → SdAt cS cL cE cW cP K (upd H ls (.lst (Ds.map V.ref ++ [.ref d2]))) b.a fa age F c m d3 a3 s3 := fun hs =>
    ⟨e _ _ hs.sd (fun z => by have := hs.sd; rw [List.mem_singleton.mp z, hls] at this; cases this), hs.tt.f e ns, ManIs.f e ns hs.mn, hs.sa.f e ns, hs.snd.fl hls2 hy r1 e, hs.mo, hs.bd⟩
  obtain ⟨dy, gs, hf⟩ := h.flw.insA
  refine ⟨hb0.own hl0 h.bag, h.row.f e ns (fun x hx => .inr (.inl (List.mem_singleton.mp hx))) (fun z => ?_), h.flw.f e ns (fun z => by rw [List.mem_singleton.mp z, hls] at hf; cases hf), by rw [upd_same, List.map_append]; rfl, h.nls, fun i d3 a3 g1 g2 => ?_, h.pl.fl hls2 hy r1 e, h.vp.f e ns, by rw [List.length_append, List.length_append, h.len]; rfl, ?_, ?_, fun z => ?_, fun z => ?_, h.fp, fun z => ?_⟩
  · obtain ⟨L, hL⟩ := h.row.at_.dkE; rw [List.mem_singleton.mp z, hls] at hL; cases hL
  · by_cases hi : i < Ds.length
    · rw [List.getElem?_append_left hi] at g1
      rw [List.getElem?_append_left (by rw [← h.len]; exact hi)] at g2
      obtain ⟨s3, h3⟩ := h.sides i d3 a3 g1 g2
      exact ⟨s3, sdf h3⟩
    · have hi2 := (List.getElem?_eq_some_iff.mp g1).1
      rw [List.length_append, List.length_singleton] at hi2
      have hi3 : i = Ds.length := by omega
      rw [List.getElem?_append_right (by omega), hi3, Nat.sub_self] at g1
      rw [List.getElem?_append_right (by rw [← h.len]; omega), hi3, h.len, Nat.sub_self] at g2
      cases g1
      cases g2
      rw [ht i (by omega)]
      exact ⟨s, sdf h0⟩
  · exact List.nodup_append.mpr ⟨h.nd, List.pairwise_singleton _ _, fun x hx y hy z => nd (by rw [List.mem_singleton.mp hy] at z; rw [← z]; exact hx)⟩
  · exact List.nodup_append.mpr ⟨h.na, List.pairwise_singleton _ _, fun x hx y hy z => na (by rw [List.mem_singleton.mp hy] at z; rw [← z]; exact hx)⟩
  · rcases List.mem_append.mp z with z | z
    · exact h.fA z
    · exact nf (List.mem_singleton.mp z)
  · rcases List.mem_append.mp z with z | z
    · exact h.pA z
    · exact np (List.mem_singleton.mp z)
  · rcases List.mem_append.mp z with z | z
    · exact h.dD z
    · exact ndd (List.mem_singleton.mp z)
end
local macro_rules | `(tactic| walk_at "st") => `(tactic| first
  | with_reducible refine' r_prC ?_
  | with_reducible refine' r_prN ?_)
theorem at_lastV {xs : List V} {n : Nat} {v : V} (hn : xs.length = n + 1) (h : xs[n]? = some v) : atI xs (-1) = some v := by
  unfold atI ixN
  rw [if_neg (by decide), if_pos (by omega)]
  simp only [Option.bind_some]
  rw [show ((-1 : Int) + (xs.length : Int)).toNat = n by omega]
  exact h
def spLaw35 (K : PySem.W.Frag) : Sp := fun vs H Q _ => ∃ (a : Addr) (ns : List Int), vs = [.ref a] ∧ SqL K H a (ns.map V.int) ∧ ns.length ≤ 63 ∧ ∀ H', Q (.bl true) H'
theorem kd_of {F : FlowD} (ok : FlowOk F) : ∃ c, KdIs c F.d ∧ KdOk c F.z ∧ F.d = c.s := by
  have kd := ok.kd
  cases h : F.z with
  | no =>
    rw [h] at kd
    rcases kd with e | e
    · exact ⟨.lv, e, True.intro, e⟩
    · exact ⟨.eg, e, True.intro, e⟩
  | win q => rw [h] at kd; exact ⟨.wi, kd, ⟨q, rfl⟩, kd⟩
  | tries n => rw [h] at kd; exact ⟨.pr, kd, ⟨n, rfl⟩, kd⟩
section
variable {P : Program} {w : World} {K : PySem.W.Frag} {mg : Str → Option Value} {base : Heap} {f : Addr} {fd : FuncData}
abbrev s_law : Stmt := top 79
theorem c_law : FnScope ["_law_script", "_law_bag_here", "_law_route", "_law_left", "_law_age_of", "_law_kinds", "_law_one", "_law_row", "_law_flow_told", "_law_first", "_law_sides", "_law_plain", "_law_plain_sum", "_law_now_of", "_law_side", "_law_part_here", "_law_last", "_law_other", "_law_told", "_law_again"] ["_law_script"] (defScope s_law) := ⟨rfl, rfl, rfl, by decide +kernel, rfl, by decide +kernel, by decide +kernel⟩
theorem f_law (F : FunD K "law" "law" (defArgs s_law) (defBody s_law) (defScope s_law) [] [] f fd) (hm : mg "law" = some (.ref f)) {cF cS cL cE cW cP : Addr} (T : Bt mg) (Tdict : mg "dict" = none) (TSender : CtU K mg "Sender" cS (S5 cS cL cE cW cP) ["flow", "age", "total"]) (RSender : Cr P w K mg base 1 "Sender" cS (spSn0 (S5 cS cL cE cW cP) K)) (MSender_offer : MtU P w K mg base 5 (S5 cS cL cE cW cP) "offer" (spOffU cF cS cL cE cW cP K)) (MSender_asks : MtU P w K mg base 4 (S5 cS cL cE cW cP) "asks" (spAskU cS cL cE cW cP K)) (MSender_note_sent : MtU P w K mg base 3 (S5 cS cL cE cW cP) "note_sent" (fun _ => spNoteU (S5 cS cL cE cW cP) K)) (MSender_copy : MtU P w K mg base 5 (S5 cS cL cE cW cP) "copy" (spCopy cF cS cL cE cW cP K)) (EFlow : Oe P w K mg base 1 cF (FlowR cF K)) (F_law_bag : Fn P w K mg base 1 "_law_bag" (spBag K)) (F_law_draw : Fn P w K mg base 1 "_law_draw" (spDraw K)) (F_law_of : Fn P w K mg base 2 "_law_of" (spOf K)) (G_law_some : Fn P w K mg base 3 "_law_some" (spSome5 K)) (F_law_amount : Fn P w K mg base 1 "_law_amount" (spPair K)) (F_law_sum : Fn P w K mg base 2 "_law_sum" (sp2 (fun _ _ => True) (· + ·) K)) (F_law_same : Fn P w K mg base 4 "_law_same" (spLike K 4)) (F_law_name : Fn P w K mg base 3 "_law_name" (spName K)) (F_law_flow : Fn P w K mg base 5 "_law_flow" (spFlow K)) (F_law_made_flow : Fn P w K mg base 8 "_law_made_flow" (spMade cF K)) (F_law_new : Fn P w K mg base 5 "_law_new" (spNew cF cS cL cE cW cP K)) (F_law_class : Fn P w K mg base 1 "_law_class" (spClass cS cL cE cW cP)) (F_law_step : Fn P w K mg base 6 "_law_step" (spStep cF cS cL cE cW cP K)) : FnOk P w K mg base CX0 9 f fd ["_law_script"] (spLaw35 K) := by
  refine ok_def F c_law (fun vs H Q E h => ?_) (fun cdv A outer s H vs Q E hr h => ?_)
  · obtain ⟨a, ns, rfl, _⟩ := h
    rfl
  · obtain ⟨sc, ns, rfl, hl, h63, k⟩ := h
    have nd := c_law.nd
    refine ⟨_, (pss_cons (ps_set (i := 1) nd rfl (by first | exact Or.inl rfl | exact Or.inr rfl) (pe_fn F_law_bag (hr.mono (by decide)) (pa_cons (pv 0) pa_nil)))
      (pss_cons (ps_par (i := 2) (j := 3) (by rfl) nd rfl rfl (by decide) rfl rfl (pa_cons (pe_fn F_law_of (hr.mono (by decide)) (pa_cons (pv 1) (pa_cons (pe_lst (pa_cons (pe_lst (pa_cons pe_str pa_nil)) (pa_cons (pe_lst (pa_cons pe_str (pa_cons pe_str pa_nil))) (pa_cons (pe_lst (pa_cons pe_str (pa_cons pe_str (pa_cons pe_str pa_nil)))) (pa_cons (pe_lst (pa_cons pe_str (pa_cons pe_str (pa_cons pe_str (pa_cons pe_str pa_nil))))) pa_nil))))) pa_nil))) (pa_cons pe_dnewK pa_nil)) (by rfl))
      (pss_cons (ps_par (i := 4) (j := 5) (by rfl) nd rfl rfl (by decide) rfl rfl (pa_cons (pe_op op_add pe_int (pe_fn F_law_draw (hr.mono (by decide)) (pa_cons (pv 1) (pa_cons pe_int pa_nil)))) (pa_cons (pe_lst (pa_cons pe_str (pa_cons pe_str (pa_cons pe_str (pa_cons pe_str pa_nil))))) pa_nil)) (by rfl))
      (pss_cons (ps_for PassesOwn.never rfl (pi_list (pv 2)) (pg_name (i := 6) nd rfl (by first | exact Or.inl rfl | exact Or.inr rfl))
        (pss_one (ps_dput (hu_of hr) (pv 3) (pv 6) (pe_fn G_law_some (hr.mono (by decide)) (pa_cons (pv 1) (pa_cons pe_int pa_nil))) (by rfl))))
      (pss_cons (ps_set (i := 7) nd rfl (by first | exact Or.inl rfl | exact Or.inr rfl) (pe_fn F_law_flow (hr.mono (by decide)) (pa_cons (pv 1) (pa_cons (pe_fn F_law_name (hr.mono (by decide)) (pa_cons (pv 1) (pa_cons (pe_lst (pa_cons pe_str (pa_cons pe_str (pa_cons pe_str (pa_cons pe_str (pa_cons pe_str pa_nil)))))) pa_nil))) (pa_cons (pv 2) (pa_cons (pv 3) (pa_cons (pv 5) (pa_cons pe_bl pa_nil))))))))
      (pss_cons (ps_set (i := 8) nd rfl (by first | exact Or.inl rfl | exact Or.inr rfl) (pe_fn F_law_made_flow (hr.mono (by decide)) (pa_cons (pv 7) pa_nil)))
      (pss_cons (ps_set (i := 9) nd rfl (by first | exact Or.inl rfl | exact Or.inr rfl) (pe_disp (pps_cons pe_str (pe_fn F_law_new (hr.mono (by decide)) (pa_cons (pv 1) (pa_cons (pv 8) (pa_cons (pv 7) (pa_cons (pv 4) pa_nil))))) (pps_cons pe_str (pe_tup (pa_cons pe_int (pa_cons pe_int pa_nil))) (pps_cons pe_str (pe_dget (hu_of hr) (pv 7) pe_str (fun _ _ => rfl)) pps_nil))) rfl rfl (by simp) (by decide)))
      (pss_cons (ps_dput (hu_of hr) (pv 9) pe_str (pe_tup (pa_cons (pe_tup (pa_cons pe_int (pa_cons pe_int pa_nil))) (pa_cons (pe_dget (hu_of hr) (pv 7) pe_str (fun _ _ => rfl)) (pa_cons pe_int (pa_cons pe_int (pa_cons (pe_tup (pa_cons pe_int (pa_cons pe_int pa_nil))) pa_nil)))))) (by rfl))
      (pss_cons (ps_par3 (i := 10) (j := 11) (l := 12) (by rfl) nd rfl rfl rfl (by decide) (by decide) (by decide) rfl rfl rfl (pa_cons (pe_lst (pa_cons (pv 9) pa_nil)) (pa_cons (pe_cr RSender (hr.mono (by decide)) (pa_cons (pv 8) (pa_cons (pv 4) pa_nil))) (pa_cons (pe_tup (pa_cons pe_int (pa_cons pe_int pa_nil))) pa_nil))) (by rfl))
      (pss_cons (ps_for PassesOwn.never rfl (pi_range1 rfl T.range (pa_cons (pe_op op_add pe_int (pe_fn F_law_draw (hr.mono (by decide)) (pa_cons (pv 1) (pa_cons pe_int pa_nil)))) pa_nil)) (pg_name (i := 13) nd rfl (by first | exact Or.inl rfl | exact Or.inr rfl))
        (pss_cons (ps_for PassesOwn.never rfl (pi_list (pe_callTy cr_list (by rfl) T.list (by decide +kernel) (pa_cons (pv 10) pa_nil))) (pg_name (i := 14) nd rfl (by first | exact Or.inl rfl | exact Or.inr rfl))
          (pss_one (ps_if (pt_not (pt_val (pe_fn F_law_step (hr.mono (by decide)) (pa_cons (pv 1) (pa_cons (pv 7) (pa_cons (pv 14) (pa_cons (pv 13) (pa_cons (pv 4) pa_nil))))))))
            (pss_one (ps_ret pe_bl))
            pss_nil)))
        (pss_cons (ps_if (pt_not (pt_val (pe_fn F_law_same (hr.mono (by decide)) (pa_cons (pe_mtU MSender_offer (hr.mono (by decide)) (pv 11) (pa_cons (pv 13) (pa_cons (pe_dget (hu_of hr) (pv 7) pe_str (fun _ _ => rfl)) (pa_cons pe_dnewK pa_nil)))) (pa_cons (pe_tup (pa_cons pe_int (pa_cons pe_int pa_nil))) pa_nil)))))
          (pss_one (ps_ret pe_bl))
          pss_nil)
        (pss_cons (ps_if (pt_not (pt_val (pe_fn F_law_same (hr.mono (by decide)) (pa_cons (pe_mtU MSender_asks (hr.mono (by decide)) (pv 11) (pa_cons (pe_dget (hu_of hr) (pv 7) pe_str (fun _ _ => rfl)) pa_nil)) (pa_cons (pe_tup (pa_cons pe_int (pa_cons pe_int pa_nil))) pa_nil)))))
          (pss_one (ps_ret pe_bl))
          pss_nil)
        (pss_cons (ps_set (i := 15) nd rfl (by first | exact Or.inl rfl | exact Or.inr rfl) (pe_fn F_law_amount (hr.mono (by decide)) (pa_cons (pe_op op_add (pv 13) pe_int) (pa_cons pe_int pa_nil))))
        (pss_cons (ps_if (pt_cmpR op_notN (pe_mtU MSender_note_sent (hr.mono (by decide)) (pv 11) (pa_cons (pv 15) pa_nil)) pe_non (nomark _))
          (pss_one (ps_ret pe_bl))
          pss_nil)
        (pss_cons (ps_set (i := 12) nd rfl (by first | exact Or.inl rfl | exact Or.inr rfl) (pe_fn F_law_sum (hr.mono (by decide)) (pa_cons (pv 12) (pa_cons (pv 15) pa_nil))))
        (pss_one (ps_if (PW.pt (pw_and (pt_cmpR op_lt (pe_callB cr_len (by rfl) T.len (by decide +kernel) (pa_cons (pv 10) pa_nil)) pe_int (nomark _)) (pw_and1 (pt_cmpR op_eq (pe_fn F_law_draw (hr.mono (by decide)) (pa_cons (pv 1) (pa_cons pe_int pa_nil))) pe_int (nomark _)))))
          (pss_cons (ps_set (i := 16) nd rfl (by first | exact Or.inl rfl | exact Or.inr rfl) (pe_ix ix_list (pv 10) (pe_un un_neg pe_int) (fun _ _ => rfl)))
          (pss_cons (ps_set (i := 17) nd rfl (by first | exact Or.inl rfl | exact Or.inr rfl) (pe_callTy call_dictC (by rfl) Tdict (by decide +kernel) (pa_cons (pv 16) pa_nil)))
          (pss_cons (ps_dput (hu_of hr) (pv 17) pe_str (pe_mtU0 MSender_copy (hr.mono (by decide)) (pe_dget (hu_of hr) (pv 16) pe_str (fun _ _ => rfl))) (by rfl))
          (pss_one (ps_expr (pe_bm PySem.F.plainAttrs_list PySem.F.slot_list_append PySem.F.type_list_append mt_append (pv 10) (pa_cons (pv 17) pa_nil)))))))
          pss_nil)))))))))
      (pss_cons (ps_for PassesOwn.never rfl (pi_list (pv 10)) (pg_name (i := 14) nd rfl (by first | exact Or.inl rfl | exact Or.inr rfl))
        (pss_cons (ps_set (i := 18) nd rfl (by first | exact Or.inl rfl | exact Or.inr rfl) (pe_dget (hu_of hr) (pv 14) pe_str (fun _ _ => rfl)))
        (pss_one (ps_if (PW.pt (pw_or (pt_not (pt_val (pe_fn F_law_class (hr.mono (by decide)) (pa_cons (pv 18) (pa_cons (pe_dget (hu_of hr) (pv 7) pe_str (fun _ _ => rfl)) pa_nil))))) (pw_or (pt_not (pt_cmpR (op_own EFlow (hr.mono (by decide))) (pe_atU TSender (by decide +kernel) (pv 18)) (pv 8) (nomark _))) (pw_or1 (pt_not (pt_val (pe_fn F_law_same (hr.mono (by decide)) (pa_cons (pe_atU TSender (by decide +kernel) (pv 18)) (pa_cons (pv 4) pa_nil)))))))))
          (pss_one (ps_ret pe_bl))
          pss_nil))))
      (pss_cons (ps_set (i := 19) nd rfl (by first | exact Or.inl rfl | exact Or.inr rfl) (pe_mtU0 MSender_copy (hr.mono (by decide)) (pv 11)))
      (pss_cons (ps_expr (pe_mtU MSender_note_sent (hr.mono (by decide)) (pv 19) (pa_cons (pe_tup (pa_cons pe_int (pa_cons pe_int pa_nil))) pa_nil)))
      (pss_cons (ps_if (PW.pt (pw_or (pt_not (pt_val (pe_fn F_law_same (hr.mono (by decide)) (pa_cons (pe_atU TSender (by decide +kernel) (pv 11)) (pa_cons (pv 12) pa_nil))))) (pw_or1 (pt_not (pt_val (pe_fn F_law_same (hr.mono (by decide)) (pa_cons (pe_atU TSender (by decide +kernel) (pv 19)) (pa_cons (pe_fn F_law_sum (hr.mono (by decide)) (pa_cons (pv 12) (pa_cons (pe_tup (pa_cons pe_int (pa_cons pe_int pa_nil))) pa_nil))) pa_nil))))))))
        (pss_one (ps_ret pe_bl))
        pss_nil)
      (pss_one (ps_ret (pe_and (pe_fn F_law_class (hr.mono (by decide)) (pa_cons (pv 19) (pa_cons pe_str pa_nil))) (pe_and (pe_fn F_law_same (hr.mono (by decide)) (pa_cons (pe_atU TSender (by decide +kernel) (pv 19)) (pa_cons (pv 4) pa_nil))) (pe_one (pe_cmpR (op_own EFlow (hr.mono (by decide))) (pe_atU TSender (by decide +kernel) (pv 19)) (pv 8) (nomark _))))))))))))))))))))), ?_⟩
    show (_ : TS) _ [some _, none, none, none, none, none, none, none, none, none, none, none, none, none, none, none, none, none, none, none] _
    try dsimp only [cxOf, Cx.nox]
    walk_at "go"
    refine ⟨sc, ns, rfl, hl, h63, fun b H1 hn e1 b1 => ?_⟩
    walk_at "go"
    rename_i p1 h1 p2 h2 p3 h3 p4 h4 pl hpl
    have npl : b.a ≠ pl := BagAt.ne (b1.x0 (by walk_at "ext")) hpl
    have np1 : b.a ≠ p1 := b1.ne h1
    have np2 : b.a ≠ p2 := BagAt.ne (b1.x0 (by walk_at "ext")) h2
    have np3 : b.a ≠ p3 := BagAt.ne (b1.x0 (by walk_at "ext")) h3
    have np4 : b.a ≠ p4 := BagAt.ne (b1.x0 (by walk_at "ext")) h4
    generalize hG : upd _ pl _ = H2
    have e2 : Ext [] H1 H2 := by rw [← hG]; walk_at "ext"
    have hl2 : SqL K H2 pl [.ref p1, .ref p2, .ref p3, .ref p4] := by rw [← hG]; exact lstS
    have hr1 : SqL K H2 p1 ((["a"] : List Str).map V.str) := by rw [← hG]; show SqL K _ p1 [V.str "a"]; walk_at "sq"
    have hr2 : SqL K H2 p2 ((["b", "a"] : List Str).map V.str) := by rw [← hG]; show SqL K _ p2 [V.str "b", V.str "a"]; walk_at "sq"
    have hr3 : SqL K H2 p3 ((["c", "a", "bb"] : List Str).map V.str) := by rw [← hG]; show SqL K _ p3 [V.str "c", V.str "a", V.str "bb"]; walk_at "sq"
    have hr4 : SqL K H2 p4 ((["a", "b", "c", "d"] : List Str).map V.str) := by rw [← hG]; show SqL K _ p4 [V.str "a", V.str "b", V.str "c", V.str "d"]; walk_at "sq"
    have b2 := b1.x0 e2
    clear hG h1 h2 h3 h4 hpl
    have okL : ∀ s ∈ (["a", "b", "c", "d", "bb"] : List Str), s.length ≤ 6 ∧ nameB s = true := by decide +kernel
    have routes : ∀ (i : Nat) (x : V), [V.ref p1, .ref p2, .ref p3, .ref p4][i]? = some x → ∃ r rs, x = .ref r ∧ SqL K H2 r (rs.map V.str) ∧ RouteOk rs ∧ b.a ≠ r := fun i x hx => by
      match i, hx with
      | 0, hx => cases hx; exact ⟨p1, ["a"], rfl, hr1, ⟨by decide, by decide, by decide +kernel, fun s hs => okL s (by simp at hs ⊢; simp [hs])⟩, np1⟩
      | 1, hx => cases hx; exact ⟨p2, ["b", "a"], rfl, hr2, ⟨by decide, by decide, by decide +kernel, fun s hs => okL s (by simp at hs ⊢; rcases hs with rfl | rfl <;> simp)⟩, np2⟩
      | 2, hx => cases hx; exact ⟨p3, ["c", "a", "bb"], rfl, hr3, ⟨by decide, by decide, by decide +kernel, fun s hs => okL s (by simp at hs ⊢; rcases hs with rfl | rfl | rfl <;> simp)⟩, np3⟩
      | 3, hx => cases hx; exact ⟨p4, ["a", "b", "c", "d"], rfl, hr4, ⟨by decide, by decide, by decide +kernel, fun s hs => okL s (by simp at hs ⊢; rcases hs with rfl | rfl | rfl | rfl <;> simp)⟩, np4⟩
    refine ⟨b, pl, _, rfl, b2, hl2, npl, show 0 < 4 by decide, show 4 ≤ 4000 by decide, fun i x H3 hx b3 n3 => ?_⟩
    obtain ⟨ra, rs, rfl, hra2, rok, nra⟩ := routes i x hx
    have hra3 : SqL K H3 ra (rs.map V.str) := lstX n3 hra2 fun z => nra (List.mem_singleton.mp z).symm
    clear hr1 hr2 hr3 hr4 np1 np2 np3 np4 npl hl2 routes hra2 b2 e1 e2 hn
    walk_at "go"
    rename_i lf hlf
    have e4 : Ext [] H3 (upd H3 lf (.dK [])) := Ext.refl.new hlf
    have hlf4 : (upd H3 lf (.dK [])) lf = some (.dK []) := upd_same
    have hra4 := lst0 e4 hra3
    have b4 := b3.x0 e4
    generalize upd H3 lf (.dK []) = H4 at *
    clear n3 b3 hra3 hlf e4
    refine k_draw b4 (by omega) (by decide) fun ag H5 ag0 ag1 b5 n5 => ?_
    have hlf5 : H5 lf = some (.dK []) := n5 _ _ hlf4 fun z => bag_ne_dk b4 hlf4 (List.mem_singleton.mp z)
    have hra5 : SqL K H5 ra (rs.map V.str) := lstX n5 hra4 fun z => nra (List.mem_singleton.mp z).symm
    walk_at "go"
    rename_i ka hka
    have e6 : Ext [] H5 (upd H5 ka (.lst ((["level", "window", "probe", "eager"] : List Str).map V.str))) := Ext.refl.new hka
    have hka6 : SqL K (upd H5 ka (.lst ((["level", "window", "probe", "eager"] : List Str).map V.str))) ka ((["level", "window", "probe", "eager"] : List Str).map V.str) := lstS
    have nka : b.a ≠ ka := b5.ne hka
    have b6 := b5.x0 e6
    have hlf6 := e6 _ _ hlf5 fun z => nomatch z
    have hra6 := lst0 e6 hra5
    change _ at *
    generalize hH6 : upd H5 ka (.lst ((["level", "window", "probe", "eager"] : List Str).map V.str)) = H6 at *
    have hH6' : upd H5 ka (.lst [V.str "level", V.str "window", V.str "probe", V.str "eager"]) = H6 := hH6
    rw [hH6']
    clear hH6 hH6' b4 hlf4 hra4 n5 b5 hlf5 hra5 hka e6
    have keep : ∀ {H' : Hp} {x : Addr} {xs : List V}, Ext [b.a, lf] H6 H' → b.a ≠ x → SqL K H6 x xs → SqL K H' x xs := fun e hn h => lstM e h fun z => by
      simp only [List.mem_cons, List.not_mem_nil, or_false] at z
      rcases z with z | z
      · exact absurd z.symm hn
      · exact ⟨.dK [], by rw [z]; exact hlf6, (fun _ z => nomatch z), fun _ _ z => nomatch z⟩
    refine r_forL rfl hra6 (fun i σ H' => ∃ u6 kv c, σ = [some (V.ref sc), some (V.ref b.a), some (V.ref ra), some (V.ref lf), some (V.int (1 + ag)), some (V.ref ka), u6, none, none, none, none, none, none, none, none, none, none, none, none, none] ∧ H' lf = some (.dK kv) ∧ kv.length ≤ i ∧ TR (Am K H') kv c ∧ (∀ p ∈ c, In 30 1000 p.2) ∧ (∀ r ∈ rs.take i, ∃ q, gv c (.inr r) = some q) ∧ BagAt K H' b ∧ Ext [b.a, lf] H6 H') ⟨none, [], [], rfl, hlf6, Nat.le_refl _, .nil, (by simp), (by simp), b6, Ext.refl⟩ ?_ ?_ ?_
    · rintro i σ H' _ ⟨_, _, _, _, _, _, _, _, _, _, e⟩
      exact keep e nra hra6
    · rintro i x σ H7 hx ⟨u6, kv, c, rfl, hlf7, hkl, htr, hin, hcov, b7, e7⟩
      rw [List.getElem?_map] at hx
      obtain ⟨r, hr, rfl⟩ := Option.map_eq_some_iff.mp hx
      have hi := (List.getElem?_eq_some_iff.mp hr).1
      have r5 := rok.l5
      walk_at "go"
      refine k_some5 (M := 9) rfl b7 (by decide) fun v q H8 av iv dv b8 n8 => ?_
      have hlf8 : H8 lf = some (.dK kv) := n8 _ _ hlf7 fun z => bag_ne_dk b7 hlf7 (List.mem_singleton.mp z)
      have htr8 : TR (Am K H8) kv c := htr.imp fun v y a => a.b b7 n8
      walk_at "go"
      refine r_putS hlf8 (by omega) ?_
      have e9 : Ext [lf] H8 (upd H8 lf (.dK (putK kv (.inr r) v))) := Ext.refl.at_ List.mem_cons_self
      have n9 := no_dk hlf8
      refine ⟨_, putK kv (.inr r) v, gp c (.inr r) q, rfl, upd_same, Nat.le_trans len_putK (by omega), (htr8.put av).imp fun v y a => a.f e9 n9.1, fun p hp => ?_, fun r' hr' => ?_, b8.f e9 n9.2, (e7.trans (n8.mono fun x hx => by rw [List.mem_singleton.mp hx]; simp)).trans (e9.mono fun x hx => by rw [List.mem_singleton.mp hx]; simp)⟩
      · unfold gp at hp
        split at hp
        · obtain ⟨p', hp', rfl⟩ := List.mem_map.mp hp
          split
          · exact iv.most (by decide)
          · exact hin p' hp'
        · rcases List.mem_append.mp hp with hp | hp
          · exact hin p hp
          · rw [List.mem_singleton.mp hp]; exact iv.most (by decide)
      · rw [gv_gp]
        split
        · exact ⟨q, rfl⟩
        · rename_i hne
          rw [List.take_add_one, hr] at hr'
          rcases List.mem_append.mp hr' with h | h
          · exact hcov r' h
          · have : r' = r := by simpa using h
            exact absurd (by rw [this]) hne
    · rintro σ H7 ⟨u6, kv, c, rfl, hlf7, hkl, htr, hin, hcov, b7, e7⟩
      rw [List.length_map] at hkl hcov
      rw [List.take_length] at hcov
      have r5 := rok.l5
      have hra7 := keep e7 nra hra6
      have hka7 := keep e7 nka hka6
      clear e7 keep hra6 hka6 hlf6 b6
      walk_at "go"
      rename_i pn hpn
      have e8 : Ext [] H7 (upd H7 pn (.lst ((["a", "b", "c", "d", "bb"] : List Str).map V.str))) := Ext.refl.new hpn
      refine ⟨b, pn, ["a", "b", "c", "d", "bb"], rfl, b7.x0 e8, lstS, b7.ne hpn, fun nm H8 hnm b8 n8 => ?_⟩
      have n78 : Ext [b.a] H7 H8 := e8.of0.trans n8
      have hlf8 : H8 lf = some (.dK kv) := n78 _ _ hlf7 fun z => bag_ne_dk b7 hlf7 (List.mem_singleton.mp z)
      have hra8 : SqL K H8 ra (rs.map V.str) := lstX n78 hra7 fun z => nra (List.mem_singleton.mp z).symm
      have hka8 := lstX n78 hka7 fun z => nka (List.mem_singleton.mp z).symm
      have htr8 : TR (Am K H8) kv c := htr.imp fun v y a => a.b b7 n78
      walk_at "go"
      refine ⟨b, nm, ra, lf, ka, rs, ["level", "window", "probe", "eager"], kv, c, true, rfl, b8, hnm, rok, hra8, nra, hka8, nka, by decide, by decide, fun x hx => ?_, hlf8, by omega, htr8, hin, hcov, fun d F H9 ok hFn hFr hFd hFb row9 hd8 b9 n9 => ?_⟩
      · simp only [List.mem_cons, List.not_mem_nil, or_false] at hx
        rcases hx with rfl | rfl | rfl | rfl
        · exact .inl rfl
        · exact .inr (.inr (.inl rfl))
        · exact .inr (.inr (.inr rfl))
        · exact .inr (.inl rfl)
      clear hlf7 htr hra7 hka7 e8 n8 n78 hlf8 hra8 hka8 htr8 hcov hin hkl b7 b8 hpn n9 hFb hFd
      obtain ⟨cc, hk, hkz, hks⟩ := kd_of ok.ok
      have hFr5 := ok.ok.rt.l5
      have hFr1 := ok.ok.rt.l1
      walk_at "go"
      refine ⟨b, d, F, rfl, row9, ok, fun vf H10 e10 hf10 hfr => ?_⟩
      obtain ⟨fa, rfl, hfa0⟩ := hfr
      have row10 := row9.x0 e10
      have b10 := b9.x0 e10
      clear row9 b9 e10 hfa0
      walk_at "go"
      refine r_disp fun d2 hd2 => ?_
      have e11 : Ext [] H10 (upd H10 d2 (.dK [])) := Ext.refl.new hd2
      have row11 := row10.x0 e11
      have b11 := b10.x0 e11
      have hf11 := hf10.x0 e11
      have hsd11 : (upd H10 d2 (.dK [])) d2 = some (.dK []) := upd_same
      have nd2 : d ≠ d2 := fun z => by obtain ⟨L, hL⟩ := row10.dkE; rw [z, hd2] at hL; cases hL
      generalize upd H10 d2 (.dK []) = H11 at *
      clear row10 b10 hf10 e11 hd2
      obtain ⟨L, vz, vg, vG, vD, vm, hL, lL, _, lkind, _⟩ := row11.row
      walk_at "go"
      refine ⟨b, .ref fa, d, L, 1 + ag, F, cc, rfl, b11, hf11, hL, lkind, hFr5, hk, fun a H12 ha0 n12 b12 hs12 => ?_⟩
      have row12 := row11.bg b11 n12
      have hf12 := hf11.bg b11 n12
      have hsd12 : H12 d2 = some (.dK []) := n12 _ _ hsd11 fun z => bag_ne_dk b11 hsd11 (List.mem_singleton.mp z)
      have nfa : fa ≠ a := fun z => by obtain ⟨dy, gs, h⟩ := hf11.insA; rw [z, ha0] at h; cases h
      clear row11 hf11 hL hsd11 b11 n12 ha0 lL lkind
      walk_at "go"
      rename_i pt hpt
      have e13 : Ext [] H12 (upd H12 pt (.tup [.int 0, .int 1])) := Ext.refl.new hpt
      have row13 := row12.x0 e13
      have hf13 := hf12.x0 e13
      have b13 := b12.x0 e13
      have hsd13 := e13 _ _ hsd12 fun z => nomatch z
      have hs13 := hs12.x0 e13
      have apt : Am K (upd H12 pt (.tup [.int 0, .int 1])) (.ref pt) 0 := ⟨pt, rfl, tupS⟩
      generalize upd H12 pt (.tup [.int 0, .int 1]) = H13 at *
      clear row12 hf12 b12 hsd12 hs12 e13 hpt
      obtain ⟨L, vz, vg, vG, vD, vm, hL, lL, _, lkind, _, _, _, _, _, lG, aG, _, _, lwish, hwm, _, _⟩ := row13.row
      refine r_getS hL lwish ?_
      walk_at "go"
      refine ⟨hsd13, [(.inr "told", .ref a), (.inr "total", .ref pt), (.inr "wish", vm)], rfl, show 3 ≤ 15 by decide, ?_⟩
      rw [show mergeK [] [(.inr "told", V.ref a), (.inr "total", .ref pt), (.inr "wish", vm)] = [(.inr "told", .ref a), (.inr "total", .ref pt), (.inr "wish", vm)] by kernel_rfl]
      have e14 : Ext [d2] H13 (upd H13 d2 (.dK [(.inr "told", .ref a), (.inr "total", .ref pt), (.inr "wish", vm)])) := Ext.refl.at_ List.mem_cons_self
      have nn := no_dk hsd13
      obtain ⟨C, dx, fs, hia⟩ := hs13.insA
      obtain ⟨dy, gs, hif⟩ := hf13.insA
      have row14 := row13.f e14 nn.1 nn.2 fun z => nd2 (List.mem_singleton.mp z)
      have hf14 := hf13.f e14 nn.1 fun z => by rw [List.mem_singleton.mp z, hsd13] at hif; cases hif
      have hs14 := hs13.f e14 nn.1 (nolst_na nn.2) fun z => by rw [List.mem_singleton.mp z, hsd13] at hia; cases hia
      have b14 := b13.f e14 nn.2
      have apt14 := apt.f e14 nn.1
      have aG14 := aG.f e14 nn.1
      have hwm14 := ManIs.f e14 nn.1 hwm
      have hL14 := e14 _ _ hL fun z => nd2 (List.mem_singleton.mp z)
      have hsd14 : (upd H13 d2 (.dK [(.inr "told", .ref a), (.inr "total", .ref pt), (.inr "wish", vm)])) d2 = some (.dK [(.inr "told", .ref a), (.inr "total", .ref pt), (.inr "wish", vm)]) := upd_same
      generalize upd H13 d2 (.dK [(.inr "told", .ref a), (.inr "total", .ref pt), (.inr "wish", vm)]) = H14 at *
      clear row13 hf13 hs13 b13 apt aG hwm hL hsd13 e14 nn hia hif
      walk_at "go"
      rename_i q1 hq1
      refine r_getS ((Ext.refl.new hq1 : Ext [] H14 _) _ _ hL14 fun z => nomatch z) lG ?_
      walk_at "go"
      rename_i q2 hq2 q3 hq3
      generalize hG : upd _ q3 _ = H15
      have e15 : Ext [] H14 H15 := by rw [← hG]; walk_at "ext"
      have hst : StateAt K H15 (.ref q3) (St0 F.c) := ⟨q3, .ref q1, vG, .ref q2, rfl, by rw [← hG]; exact tupS, ⟨q1, rfl, by rw [← hG]; show SqT K _ q1 [.int 0, .int 1]; walk_at "sq"⟩, aG14.x0 e15, ⟨q2, rfl, by rw [← hG]; show SqT K _ q2 [.int 0, .int 1]; walk_at "sq"⟩⟩
      clear hG hq1 hq2 hq3
      refine r_putS (e15 _ _ hsd14 fun z => nomatch z) (show 3 < 1000 by decide) ?_
      rw [se_new]
      have hsd15 := e15 _ _ hsd14 fun z => nomatch z
      have e16 : Ext [d2] H15 (upd H15 d2 (.dK (SideL a (.ref pt) vm (.ref q3)))) := Ext.refl.at_ List.mem_cons_self
      have nn := no_dk hsd15
      have hf15 := hf14.x0 e15
      have hs15 := hs14.x0 e15
      obtain ⟨C, dx, fs, hia⟩ := hs15.insA
      obtain ⟨dy, gs, hif⟩ := hf15.insA
      have row16 := (row14.x0 e15).f e16 nn.1 nn.2 fun z => nd2 (List.mem_singleton.mp z)
      have hf16 := hf15.f e16 nn.1 fun z => by rw [List.mem_singleton.mp z, hsd15] at hif; cases hif
      have b16 := (b14.x0 e15).f e16 nn.2
      have bd0 : Bd 0 0 (St0 F.c) := ⟨In.zero, In.zero, ok.ic.up (Xn_30 0), In.zero⟩
      have sd16 : SdAt cS cL cE cW cP K (upd H15 d2 (.dK (SideL a (.ref pt) vm (.ref q3)))) b.a fa (1 + ag) F cc 0 d2 a ⟨.ref pt, vm, .ref q3, 0, F.man, St0 F.c⟩ :=
        ⟨upd_same, (apt14.x0 e15).f e16 nn.1, ManIs.f e16 nn.1 (ManIs.x0 e15 hwm14), hst.f e16 nn.1, hs15.f e16 nn.1 (nolst_na nn.2) (fun z => by rw [List.mem_singleton.mp z, hsd15] at hia; cases hia), fun p hp => ⟨(ok.ok.mn p hp).1, ok.im p hp⟩, bd0⟩
      generalize upd H15 d2 (.dK (SideL a (.ref pt) vm (.ref q3))) = H16 at *
      clear row14 hf14 hs14 b14 apt14 aG14 hwm14 hL14 hsd14 hf15 hs15 hsd15 e15 e16 nn hia hif hst
      walk_at "go"
      rename_i ls hls
      have e17 : Ext [] H16 (upd H16 ls (.lst [.ref d2])) := Ext.refl.new hls
      have row17 : RowL K (upd H16 ls (.lst [.ref d2])) b d F ls := by
        obtain ⟨ra', ba', xs', vz', vg', vG', vD', vm', g0, g1, g2, m1, m2, g3, g4, g5, g6, g7, g8⟩ := row16
        exact ⟨ra', ba', xs', vz', vg', vG', vD', vm', e17 _ _ g0 (fun z => nomatch z), RL.new g1 hls e17, RL.new g2 hls e17, m1, m2, g3.x0 e17, g4.x0 e17, g5.x0 e17, g6.x0 e17, g7.x0 e17, ManIs.x0 e17 g8⟩
      have hs17 := SdAt.f sd16 e17 (fun _ z => nomatch z) (fun _ z => nomatch z) (fun z => nomatch z) (fun z => nomatch z)
      have hf17 := hf16.x0 e17
      have b17 := b16.x0 e17
      have hls17 : (upd H16 ls (.lst [.ref d2])) ls = some (.lst [.ref d2]) := upd_same
      have nbls : b.a ≠ ls := b16.ne hls
      generalize upd H16 ls (.lst [.ref d2]) = H17 at *
      have hbls : BagAt K H16 b ∧ H16 ls = none := ⟨b16, hls⟩
      clear row16 hf16 sd16 e17
      walk_at "go"
      intro x dxx nx ndx nex
      have hx : upd H17 dxx (.own x) x = none := by rw [upd_ne nex.symm]; exact nx
      have ex : Ext [] H17 (upd (upd H17 dxx (.own x)) x (.ins cS dxx [])) := (Ext.refl.new ndx).new hx
      refine ⟨x, dxx, cS, .no, .ref fa, 1 + ag, rfl, by simp, upd_same, fun H18 vt18 e18 h18 a18 => ⟨rfl, ?_⟩⟩
      have E18 : Ext [] H17 H18 := Ext.owned nx ex e18
      have nfx : fa ≠ x := fun z => by obtain ⟨dy, gs, h⟩ := hf17.insA; rw [z, nx] at h; cases h
      have nax : a ≠ x := fun z => by obtain ⟨C, dx, fs, h⟩ := hs17.snd.insA; rw [z, nx] at h; cases h
      walk_at "go"
      rename_i pz hpz
      have e19 : Ext [] H18 (upd H18 pz (.tup [.int 0, .int 1])) := Ext.refl.new hpz
      have E19 := E18.trans e19
      have W : LW cF cS cL cE cW cP K (upd H18 pz (.tup [.int 0, .int 1])) b d fa (1 + ag) F cc ls x [d2] [a] (fun _ => 0) 0 0 (.ref pz) :=
        ⟨b17.x0 E19, row17.f E19 (fun _ z => nomatch z) (fun _ z => nomatch z) (fun z => nomatch z), hf17.x0 E19, E19 _ _ hls17 (fun z => nomatch z), nbls, fun i d3 a3 g1 g2 => by
          cases i with
          | zero => cases g1; cases g2; exact ⟨_, hs17.f E19 (fun _ z => nomatch z) (fun _ z => nomatch z) (fun z => nomatch z) (fun z => nomatch z)⟩
          | succ i => simp at g1, (SndAt.x0 (c := .no) ⟨dxx, vt18, h18, a18⟩ e19 : SndAt cS cL cE cW cP K _ b.a x (.ref fa) (1 + ag) F 0 (St0 0) .no), ⟨pz, rfl, tupS⟩, rfl, by simp, by simp, by simpa using nfa, by simpa using nax.symm, nfx, by simpa using nd2⟩
      generalize upd H18 pz (.tup [.int 0, .int 1]) = H19 at *
      clear hs17 hf17 b17 hls17 row17 E18 E19 e19 hpz h18 a18 e18 ex hx nx ndx nex
      refine r_par3e ?_
      have hag : (0 : Int) ≤ 1 + ag ∧ 1 + ag ≤ 1000 := by omega
      walk_at "go"
      refine r_for ?_
      walk_at "go"
      refine k_draw W.bag (by omega) (by decide) fun y H20 y0 y1 b20 n20 => ?_
      have W0 := W.bg b20 n20
      clear W
      walk_at "go"
      refine ⟨_, rfl, by omega, Int.lt_of_le_of_lt (by omega : 4 + y ≤ 20) (by decide), ?_⟩
      have hN : (4 + y).toNat ≤ 20 := by omega
      generalize (4 + y).toNat = N at hN
      refine r_loopR (fun i σ H' => ∃ Ds As vp u13 u14 u15 u16 u17 q, σ = [some (V.ref sc), some (V.ref b.a), some (V.ref ra), some (V.ref lf), some (V.int (1 + ag)), some (V.ref ka), u6, some (V.ref d), some (V.ref fa), some (V.ref d2), some (V.ref ls), some (V.ref x), some vp, u13, u14, u15, u16, u17, none, none] ∧ LW cF cS cL cE cW cP K H' b d fa (1 + ag) F cc ls x Ds As (fun _ => i) q q vp ∧ In 3 (10 * i) q ∧ 0 < Ds.length ∧ Ds.length ≤ 3) ⟨[d2], [a], _, _, _, _, _, _, 0, rfl, W0, In.zero, show 0 < 1 by decide, show 1 ≤ 3 by decide⟩ ?_ ?_
      · clear W0
        rintro i σ H21 hi ⟨Ds, As, vp, u13, u14, u15, u16, u17, q, rfl, W, iq, D1, D3⟩
        walk_at "go"
        refine r_for ?_
        refine r_iList ?_
        walk_at "go"
        refine r_list (.inl (.inl (.inl W.lsH))) fun lc hlc => ?_
        have e22 : Ext [] H21 (upd H21 lc (.lst (Ds.map V.ref))) := Ext.refl.new hlc
        have nlc : b.a ≠ lc := W.bag.ne hlc
        have W1 := W.x0 e22
        refine ⟨lc, rfl, ⟨_, lstS⟩, ?_⟩
        have hlc1 : (upd H21 lc (.lst (Ds.map V.ref))) lc = some (.lst (Ds.map V.ref)) := upd_same
        generalize upd H21 lc (.lst (Ds.map V.ref)) = H22 at *
        clear W e22 hlc
        refine r_loopL (xs := Ds.map V.ref) (fun j σ H' => ∃ u14, σ = [some (V.ref sc), some (V.ref b.a), some (V.ref ra), some (V.ref lf), some (V.int (1 + ag)), some (V.ref ka), u6, some (V.ref d), some (V.ref fa), some (V.ref d2), some (V.ref ls), some (V.ref x), some vp, some (V.int (0 + (i : Int))), u14, u15, u16, u17, none, none] ∧ H' lc = some (.lst (Ds.map V.ref)) ∧ LW cF cS cL cE cW cP K H' b d fa (1 + ag) F cc ls x Ds As (fun k => if k < j then i + 1 else i) q q vp) ⟨_, rfl, hlc1, W1.tks fun k _ => by simp⟩ ?_ ?_ ?_
        · rintro j σ H' _ ⟨_, _, h, _⟩
          exact .inl (.inl h)
        · clear W1 hlc1
          rintro j xv σ H23 hx ⟨u14, rfl, hlc3, W⟩
          rw [List.getElem?_map] at hx
          obtain ⟨d3, hd3, rfl⟩ := Option.map_eq_some_iff.mp hx
          have hj := (List.getElem?_eq_some_iff.mp hd3).1
          have hja : j < As.length := by rw [← W.len]; exact hj
          have ha3 : As[j]? = some As[j] := List.getElem?_eq_getElem hja
          generalize As[j] = a3 at ha3
          obtain ⟨s, hs⟩ := W.sides j d3 a3 hd3 ha3
          have hs' : SdAt cS cL cE cW cP K H23 b.a fa (1 + ag) F cc i d3 a3 s := by have := hs; rw [if_neg (Nat.lt_irrefl j)] at this; exact this
          have nfa3 : fa ≠ a3 := fun z => W.fA (by rw [z]; exact List.mem_of_getElem? ha3)
          walk_at "go"
          refine ⟨b, d, d3, a3, fa, 0 + (i : Int), 1 + ag, F, cc, s, i, rfl, W.st hd3 hs', ok, hk, hkz, nfa3, hag, hs'.mo, hs'.bd, by omega, fun s' H24 g mo bd => ?_⟩
          have W2 := W.step hd3 ha3 hs g mo (by rw [if_neg (Nat.lt_irrefl j)]; exact bd)
          have hlc4 : H24 lc = some (.lst (Ds.map V.ref)) := g.ext _ _ hlc3 fun z => by
            simp only [List.mem_cons, List.not_mem_nil, or_false] at z
            rcases z with z | z | z
            · exact nlc z.symm
            · have := hs.sd; rw [← z, hlc3] at this; cases this
            · obtain ⟨C, dx, fs, h⟩ := hs.snd.insA; rw [← z, hlc3] at h; cases h
          walk_at "run"
          refine ⟨_, rfl, hlc4, W2.tks fun k _ => ?_⟩
          rw [if_neg (Nat.lt_irrefl j)]
          by_cases e : k = j
          · subst e
            rw [if_pos rfl, if_pos (Nat.lt_succ_self _)]
          · rw [if_neg e]
            by_cases e2 : k < j
            · rw [if_pos e2, if_pos (by omega)]
            · rw [if_neg e2, if_neg (by omega)]
        · clear W1 hlc1
          rintro σ H23 ⟨u14, rfl, hlc3, W0⟩
          have W : LW cF cS cL cE cW cP K H23 b d fa (1 + ag) F cc ls x Ds As (fun _ => i + 1) q q vp := W0.tks fun k hk => by rw [List.length_map, if_pos hk]
          clear W0 hlc3
          have hCn : (Kd.no.cls cS cL cE cW cP, Kd.no) ∈ S5 cS cL cE cW cP := kd_mem .no
          obtain ⟨dxp, fsp, vtp, hip, l9p, lflp, lagp, ltotp, avtp, lop, lasp, lnop, lcop⟩ := W.pl.ins
          obtain ⟨L, vz, vg, vG, vD, vm, hL, lL, _, lkind, _, _, _, _, _, _, _, _, _, lwish, _, _, _⟩ := W.row.at_.row
          walk_at "go"
          refine r_getS hL lwish ?_
          walk_at "go"
          rename_i gd hgd
          refine ⟨x, _, _, _, rfl, fun u au => ?_⟩
          have W1 := W.x0 (Ext.refl.new (o := .dK []) hgd)
          generalize upd H23 gd (.dK []) = H24 at *
          clear W hip hL hgd avtp
          walk_at "go"
          rename_i p5 hp5
          have e25 : Ext [] H24 (upd H24 p5 (.tup [.int 0, .int 1])) := Ext.refl.new hp5
          refine k_like ((au.x0 e25).eqd 2 ⟨p5, rfl, tupS⟩) fun H26 e26 => ?_
          have W2 := W1.x0 (e25.trans e26)
          clear W1 au e25 e26 hp5 l9p lflp lagp ltotp lop lasp lnop lcop
          obtain ⟨dxp, fsp, vtp, hip, l9p, lflp, lagp, ltotp, avtp, lop, lasp, lnop, lcop⟩ := W2.pl.ins
          obtain ⟨L, vz, vg, vG, vD, vm, hL, lL, _, lkind, _, _, _, _, _, _, _, _, _, lwish, _, _, _⟩ := W2.row.at_.row
          walk_at "run"
          refine r_getS hL lwish ?_
          walk_at "run"
          refine ⟨x, _, rfl, fun u au => ?_⟩
          walk_at "run"
          rename_i p5 hp5
          have e25 : Ext [] H26 (upd H26 p5 (.tup [.int 0, .int 1])) := Ext.refl.new hp5
          refine k_like ((au.x0 e25).eqd 2 ⟨p5, rfl, tupS⟩) fun H27 e27 => ?_
          have W3 := W2.x0 (e25.trans e27)
          clear W2 au e25 e27 hp5 hip l9p lflp lagp ltotp avtp lop lasp lnop lcop hL
          walk_at "run"
          refine ⟨i + 1, 3, by push_cast; simp, by decide, Nat.lt_of_le_of_lt (by omega : i + 1 ≤ 21) (Nat.lt_of_lt_of_le (by decide : 21 < 2 ^ 5) (Nat.pow_le_pow_right (by decide) (by decide : 5 ≤ 8900))), Nat.lt_of_lt_of_le (by decide : 3 < 2 ^ 2) (Nat.pow_le_pow_right (by decide) (by decide : 2 ≤ 8900)), fun v H28 e28 av => ?_⟩
          have W4 := W3.x0 e28
          have ip : In 3 10 (mkRat ((i + 1 : Nat) : Int) 3) := In.frac (by decide) (Nat.dvd_refl 3) (by omega)
          clear W3 e28
          obtain ⟨dxp, fsp, vtp, hip, l9p, lflp, lagp, ltotp, avtp, lop, lasp, lnop, lcop⟩ := W4.pl.ins
          have s3 : (3 : Nat) ≤ 2 ^ 400 := Nat.le_trans (by decide : 3 ≤ 2 ^ 2) (Nat.pow_le_pow_right (by decide) (by decide))
          have sM : ∀ {m : Nat}, m ≤ 1000 → m ≤ 2 ^ 400 := fun h => Nat.le_trans h (Nat.le_trans (by decide : 1000 ≤ 2 ^ 10) (Nat.pow_le_pow_right (by decide) (by decide)))
          walk_at "run"
          refine ⟨x, _, Kd.no, dxp, fsp, vtp, v, q, _, 3, 10 * (i + 1), rfl, hCn, hip, l9p, ltotp, avtp, av, iq.most (by omega), ip.most (by omega), by decide, s3, sM (by omega), fun H29 v9 e29 h29 a29 => ?_⟩
          have W5 := W4.pnote e29 (W4.pl.put hip e29 h29 a29)
          have av5 := av.f e29 (no_ins hip).1
          clear W4 av hip avtp l9p lflp lagp ltotp lop lasp lnop lcop e29 h29 a29
          walk_at "run"
          refine k_two W5.vp av5 (szG iq (by decide) s3 (sM (by omega))) (szG ip (by decide) s3 (sM (by decide))) iq.nn ip.nn trivial fun vp2 H30 e30 a30 => ?_
          have W6 := (W5.x0 e30).sum a30
          have iq2 : In 3 (10 * (i + 1)) (q + mkRat ((i + 1 : Nat) : Int) 3) := by have := iq.add ip; rwa [show 10 * i + 10 = 10 * (i + 1) by omega] at this
          clear W5 av5 e30 a30 iq ip
          generalize q + mkRat ((i + 1 : Nat) : Int) 3 = q9 at *
          have hlsS : SqL K H30 ls (Ds.map V.ref) := .inl (.inl W6.lsH)
          walk_at "run"
          refine r_dec (fun hl3 => ?_) (fun _ => ?_)
          · rw [List.length_map] at hl3
            walk_at "run"
            refine k_draw W6.bag (by omega) (by decide) fun y5 H31 y50 y51 b31 n31 => ?_
            have W7 := W6.bg b31 n31
            clear W6 hlsS
            walk_at "run"
            refine r_dec (fun _ => ?_) (fun _ => ?_)
            · have hlast : Ds[Ds.length - 1]? = some (Ds[Ds.length - 1]'(by omega)) := List.getElem?_eq_getElem _
              generalize Ds[Ds.length - 1]'(by omega) = d3 at hlast
              have hlasta : As[Ds.length - 1]? = some (As[Ds.length - 1]'(by rw [← W7.len]; omega)) := List.getElem?_eq_getElem _
              generalize As[Ds.length - 1]'(by rw [← W7.len]; omega) = a3 at hlasta
              obtain ⟨s, hs⟩ := W7.sides _ d3 a3 hlast hlasta
              have hlm : (Ds.map V.ref).length = (Ds.length - 1) + 1 := by rw [List.length_map]; omega
              walk_at "run"
              refine r_ixL (.inl (.inl W7.lsH)) (at_lastV hlm (by rw [List.getElem?_map, hlast]; rfl)) ?_
              walk_at "run"
              refine ⟨d3, _, rfl, hs.sd, fun p hp => ?_⟩
              have e32 : Ext [] H31 (upd H31 p (.dK (SideL a3 s.vt s.vw s.vst))) := Ext.refl.new hp
              have hs2 := hs.f e32 (fun _ z => nomatch z) (fun _ z => nomatch z) (fun z => nomatch z) (fun z => nomatch z)
              have W8 := W7.x0 e32
              have hp2 : (upd H31 p (.dK (SideL a3 s.vt s.vw s.vst))) p = some (.dK (SideL a3 s.vt s.vw s.vst)) := upd_same
              generalize upd H31 p (.dK (SideL a3 s.vt s.vw s.vst)) = H32 at *
              obtain ⟨dx3, fs3, vt3, hi3, l93, lfl3, lag3, ltot3, avt3, lo3, las3, lno3, lco3⟩ := hs2.snd.ins
              have hC3 : (cc.cls cS cL cE cW cP, cc) ∈ S5 cS cL cE cW cP := kd_mem cc
              obtain ⟨lb, hlb⟩ := W8.bag.lst
              walk_at "run"
              refine r_getS hs2.sd sd_told ?_
              walk_at "run"
              refine ⟨a3, .ref fa, 1 + ag, F, s.tot, s.st, b.a, _, rfl, hs2.snd, W8.flw, hlb, hFr5, fun a4 H33 ha4 e33 hs4 => ?_⟩
              have hp3 := e33 _ _ hp2 fun z => nomatch z
              walk_at "run"
              refine r_putS hp3 (show 4 < 1000 by decide) ?_
              rw [se_told]
              have e34 : Ext [p] H33 (upd H33 p (.dK (SideL a4 s.vt s.vw s.vst))) := Ext.refl.at_ List.mem_cons_self
              have E34 : Ext [] H31 (upd H33 p (.dK (SideL a4 s.vt s.vw s.vst))) := Ext.owned hp (e32.trans e33) e34
              have W9 := W7.x0 E34
              have n34 := no_dk hp3
              have hs33 := hs2.f e33 (fun _ z => nomatch z) (fun _ z => nomatch z) (fun z => nomatch z) (fun z => nomatch z)
              have hp4 : (upd H33 p (.dK (SideL a4 s.vt s.vw s.vst))) p = some (.dK (SideL a4 s.vt s.vw s.vst)) := upd_same
              obtain ⟨C4, dx4, fs4, hi4⟩ := hs4.insA
              have npa : a4 ∉ [p] := fun z => by rw [List.mem_singleton.mp z, hp3] at hi4; cases hi4
              have hs5 : SdAt cS cL cE cW cP K (upd H33 p (.dK (SideL a4 s.vt s.vw s.vst))) b.a fa (1 + ag) F cc (i + 1) p a4 s :=
                ⟨hp4, hs33.tt.f e34 n34.1, ManIs.f e34 n34.1 hs33.mn, hs33.sa.f e34 n34.1, hs4.f e34 n34.1 (nolst_na n34.2) npa, hs.mo, hs.bd⟩
              have g1 : p ∉ Ds := fun z => by obtain ⟨L, h⟩ := W7.dk z; rw [hp] at h; cases h
              have g2 : a4 ∉ As := fun z => by obtain ⟨C, dx, fs, h⟩ := W8.ins z; rw [ha4] at h; cases h
              have g3 : fa ≠ a4 := fun z => by obtain ⟨dy, gs, h⟩ := W8.flw.insA; rw [z, ha4] at h; cases h
              have g4 : x ≠ a4 := fun z => by obtain ⟨C, dx, fs, h⟩ := W8.pl.insA; rw [z, ha4] at h; cases h
              have g5 : d ≠ p := fun z => by obtain ⟨L, h⟩ := W7.row.at_.dkE; rw [z, hp] at h; cases h
              have W10 := W9.push hbls.1 hbls.2 hFr1 D1 hs5 g1 g2 g3 g4 g5 fun _ _ => rfl
              generalize upd H33 p (.dK (SideL a4 s.vt s.vw s.vst)) = H34 at *
              walk_at "run"
              refine ⟨.inl ⟨rfl, _, .inl (.inl W9.lsH)⟩, ?_⟩
              walk_at "run"
              refine r_app W9.lsH (by rw [List.length_map]; omega) ?_
              exact ⟨Ds ++ [p], As ++ [a4], vp2, _, _, _, _, _, q9, rfl, W10, iq2, by rw [List.length_append]; omega, by rw [List.length_append, List.length_singleton]; omega⟩
            · walk_at "run"
              exact ⟨Ds, As, vp2, _, _, _, _, _, q9, rfl, W7, iq2, D1, D3⟩
          · walk_at "run"
            exact ⟨Ds, As, vp2, _, _, _, _, _, q9, rfl, W6, iq2, D1, D3⟩
      · clear W0
        rintro σ H21 ⟨Ds, As, vp, u13, u14, u15, u16, u17, q, rfl, W, iq, D1, D3⟩
        obtain ⟨L, vz, vg, vG, vD, vm, hL, lL, _, lkind, _⟩ := W.row.at_.row
        have hls1 : SqL K H21 ls (Ds.map V.ref) := .inl (.inl W.lsH)
        walk_at "go"
        refine r_forL rfl hls1 (fun j σ H' => ∃ u14 u18, σ = [some (V.ref sc), some (V.ref b.a), some (V.ref ra), some (V.ref lf), some (V.int (1 + ag)), some (V.ref ka), u6, some (V.ref d), some (V.ref fa), some (V.ref d2), some (V.ref ls), some (V.ref x), some vp, u13, u14, u15, u16, u17, u18, none] ∧ LW cF cS cL cE cW cP K H' b d fa (1 + ag) F cc ls x Ds As (fun _ => N) q q vp) ⟨_, _, rfl, W⟩ ?_ ?_ ?_
        · rintro j σ H' _ ⟨_, _, _, W⟩
          exact .inl (.inl W.lsH)
        · clear W hls1 hL
          rintro j xv σ H22 hx ⟨u14, u18, rfl, W⟩
          rw [List.getElem?_map] at hx
          obtain ⟨d3, hd3, rfl⟩ := Option.map_eq_some_iff.mp hx
          have hj := (List.getElem?_eq_some_iff.mp hd3).1
          have hja : j < As.length := by rw [← W.len]; exact hj
          have ha3 : As[j]? = some As[j] := List.getElem?_eq_getElem hja
          generalize As[j] = a3 at ha3
          obtain ⟨s, hs⟩ := W.sides j d3 a3 hd3 ha3
          obtain ⟨dx3, fs3, vt3, hi3, l93, lfl3, lag3, ltot3, avt3, _⟩ := hs.snd.ins
          obtain ⟨L', vz', vg', vG', vD', vm', hL', _, _, lkind', _⟩ := W.row.at_.row
          have hC3 : (cc.cls cS cL cE cW cP, cc) ∈ S5 cS cL cE cW cP := kd_mem cc
          obtain ⟨dy, gs, hif⟩ := W.flw.insA
          walk_at "go"
          refine r_getS hs.sd sd_told ?_
          walk_at "go"
          refine r_getS hL' lkind' ?_
          walk_at "go"
          refine ⟨a3, dx3, cc, fs3, by rw [hks], hi3, ?_⟩
          walk_at "run"
          refine ⟨⟨fa, fa, dy, dy, gs, gs, rfl, rfl, hif, hif, ⟨rfl, F, W.flw, ok.ok⟩⟩, fun H23 e23 => ?_⟩
          have W1 := W.x0 (ext_l2 e23)
          have hi4 := (ext_l2 e23) _ _ hi3 fun z => nomatch z
          walk_at "run"
          refine k_like (Eqd.int 3 (1 + ag)) fun H24 e24 => ?_
          have W2 := W1.x0 e24
          walk_at "run"
          exact ⟨_, _, rfl, W2⟩
        · clear W hls1 hL
          rintro σ H22 ⟨u14, u18, rfl, W⟩
          have hCn : (Kd.no.cls cS cL cE cW cP, Kd.no) ∈ S5 cS cL cE cW cP := kd_mem .no
          obtain ⟨dxp, fsp, vtp, hip, l9p, lflp, lagp, ltotp, avtp, lop, lasp, lnop, lcop⟩ := W.pl.ins
          obtain ⟨lb, hlb⟩ := W.bag.lst
          walk_at "go"
          refine ⟨x, .ref fa, 1 + ag, F, q, St0 0, b.a, _, rfl, W.pl, W.flw, hlb, hFr5, fun x2 H23 hx2 e23 hs2 => ?_⟩
          have W1 := W.x0 e23
          have nfx2 : fa ≠ x2 := fun z => by obtain ⟨dy, gs, h⟩ := W.flw.insA; rw [z, hx2] at h; cases h
          have nxx2 : x ≠ x2 := fun z => by rw [z, hx2] at hip; cases hip
          clear W avtp hlb
          obtain ⟨dxq, fsq, vtq, hiq, l9q, lflq, lagq, ltotq, avtq, loq, lasq, lnoq, lcoq⟩ := hs2.ins
          walk_at "go"
          rename_i p1' hp1'
          have e24 : Ext [] H23 (upd H23 p1' (.tup [.int 1, .int 1])) := Ext.refl.new hp1'
          have hiq4 := e24 _ _ hiq fun z => nomatch z
          have s3 : (3 : Nat) ≤ 2 ^ 400 := Nat.le_trans (by decide : 3 ≤ 2 ^ 2) (Nat.pow_le_pow_right (by decide) (by decide))
          have sM : ∀ {m : Nat}, m ≤ 1000 → m ≤ 2 ^ 400 := fun h => Nat.le_trans h (Nat.le_trans (by decide : 1000 ≤ 2 ^ 10) (Nat.pow_le_pow_right (by decide) (by decide)))
          have i1 : In 3 10 (1 : Rat) := In.nat (n := 1) (by decide)
          refine ⟨x2, _, Kd.no, dxq, fsq, vtq, .ref p1', q, 1, 3, 10 * (N + 1), rfl, hCn, hiq4, l9q, ltotq, avtq.x0 e24, ⟨p1', rfl, tupS⟩, iq.most (by omega), i1.most (by omega), by decide, s3, sM (by omega), fun H25 v9 e25 h25 a25 => ?_⟩
          have hs5 := (hs2.x0 e24).put hiq4 e25 h25 a25
          have W2 := W1.x0 e24
          have nn := no_ins hiq4
          have hxx : x ∉ [x2] := fun z => nxx2 (List.mem_singleton.mp z)
          have pl5 := W2.pl.f e25 nn.1 (nolst_na nn.2) hxx
          have fl5 := W2.flw.f e25 nn.1 fun z => nfx2 (List.mem_singleton.mp z)
          have vp5 := W2.vp.f e25 nn.1
          clear W1 W2 hs2 hiq hiq4 avtq a25 h25 e25 e24 hp1' l9q lflq lagq ltotq loq lasq lnoq lcoq hip l9p lflp lagp ltotp lop lasp lnop lcop nn
          obtain ⟨dxp, fsp, vtp, hip, l9p, lflp, lagp, ltotp, avtp, _⟩ := pl5.ins
          walk_at "go"
          refine k_like (avtp.eqd 2 vp5) fun H26 e26 => ?_
          have pl6 := pl5.x0 e26
          have fl6 := fl5.x0 e26
          have vp6 := vp5.x0 e26
          have hs6 := hs5.x0 e26
          clear pl5 fl5 vp5 hs5 hip avtp e26 l9p lflp lagp ltotp
          obtain ⟨dxq, fsq, vtq, hiq, l9q, lflq, lagq, ltotq, avtq, _⟩ := hs6.ins
          walk_at "run"
          rename_i p2' hp2'
          have e27 : Ext [] H26 (upd H26 p2' (.tup [.int 1, .int 1])) := Ext.refl.new hp2'
          refine k_two (vp6.x0 e27) ⟨p2', rfl, tupS⟩ (szG iq (by decide) s3 (sM (by omega))) (szG i1 (by decide) s3 (sM (by decide))) iq.nn i1.nn trivial fun v7 H28 e28 a28 => ?_
          have E28 := e27.trans e28
          walk_at "run"
          refine k_like ((avtq.x0 E28).eqd 2 a28) fun H29 e29 => ?_
          have E29 := E28.trans e29
          have hiq9 := E29 _ _ hiq fun z => nomatch z
          have fl9 := fl6.x0 E29
          clear hiq fl6 vp6 pl6 avtq a28 e27 e28 E28 E29 hp2'
          walk_at "run"
          refine ⟨x2, dxq, Kd.no, fsq, rfl, hiq9, ?_⟩
          walk_at "run"
          refine k_like (Eqd.int 3 (1 + ag)) fun H30 e30 => ?_
          have hiq10 := e30 _ _ hiq9 fun z => nomatch z
          have fl10 := fl9.x0 e30
          obtain ⟨dy, gs, hif⟩ := fl10.insA
          walk_at "run"
          exact ⟨⟨fa, fa, dy, dy, gs, gs, rfl, rfl, hif, hif, ⟨rfl, F, fl10, ok.ok⟩⟩, fun H' _ => k H'⟩
end
end Yk

namespace Yk
open PySem PySem.Spec PyProof.Rows L2
/-! Facts of several classes, joined. -/
theorem ctU5 {K : PySem.W.Frag} {mg : Str → Option Value} {cS cL cE cW cP : Addr} (t0 : Ct K mg "Sender" cS ["flow", "age", "total"]) (tL : Ct K mg "LevelSender" cL ["flow", "age", "total", "_levels"]) (tE : Ct K mg "EagerSender" cE ["flow", "age", "total", "_door"]) (tW : Ct K mg "WindowSender" cW ["flow", "age", "total", "_came"])
    (tP : Ct K mg "ProbeSender" cP ["flow", "age", "total", "_bits", "_low", "_high", "_done", "_begun", "_rate"]) : CtU K mg "Sender" cS (S5 cS cL cE cW cP) ["flow", "age", "total"] := by
  have sub : ∀ {l : List Str} {f : Str}, f ∈ (["flow", "age", "total"] : List Str) → f ∈ (["flow", "age", "total"] : List Str) ++ l := fun h => List.mem_append_left _ h
  refine ⟨t0.hm, fun p hp => ?_, fun p hp f hf => ?_⟩
  · simp only [S5, List.mem_cons, List.not_mem_nil, or_false] at hp
    rcases hp with rfl | rfl | rfl | rfl | rfl
    · exact t0.cls
    · exact tL.cls
    · exact tE.cls
    · exact tW.cls
    · exact tP.cls
  · simp only [S5, List.mem_cons, List.not_mem_nil, or_false] at hp
    rcases hp with rfl | rfl | rfl | rfl | rfl
    · exact t0.no f hf
    · exact tL.no f (sub (l := ["_levels"]) hf)
    · exact tE.no f (sub (l := ["_door"]) hf)
    · exact tW.no f (sub (l := ["_came"]) hf)
    · exact tP.no f (sub (l := ["_bits", "_low", "_high", "_done", "_begun", "_rate"]) hf)
theorem mtU5 {P : Program} {w : World} {K : PySem.W.Frag} {mg : Str → Option Value} {base : Heap} {k : Nat} {cS cL cE cW cP : Addr} {m : Str} {sp : Kd → Sp} (h0 : Mt P w K mg base k cS m (sp .no)) (hL : Mt P w K mg base k cL m (sp .lv)) (hE : Mt P w K mg base k cE m (sp .eg)) (hW : Mt P w K mg base k cW m (sp .wi)) (hP : Mt P w K mg base k cP m (sp .pr)) :
    MtU P w K mg base k (S5 cS cL cE cW cP) m sp := by
  refine ⟨fun p hp => ?_⟩
  simp only [S5, List.mem_cons, List.not_mem_nil, or_false] at hp
  rcases hp with rfl | rfl | rfl | rfl | rfl
  · exact h0.run
  · exact hL.run
  · exact hE.run
  · exact hW.run
  · exact hP.run
end Yk

set_option maxHeartbeats 0
namespace YkHead
open PySem PySem.Spec PyProof.Rows L2 Yk
theorem facts {P : Program} {w : World} {K : PySem.W.Frag} {h : Heap} {mg : Str → Option Value} {f : Addr} (X : K.In h) (G : h.Ns mainGlobals mg) (hfa : mg ("law" : Str) = some (.ref f)) (c0 : Hk.SaysS fa fn ex sf file0 K) (hPf : P.main.file = file0) (hPs : (P.main.scope.names.lookup ("super" : Str)).isSome = false) :
    ∃ fd : FuncData, (∀ (s : Shared) (v : Value), BindsTo s fd ⟨[v], []⟩ [("_law_script", v)]) ∧ ∀ base : Heap, K.In base → base.Ns mainGlobals mg → FnOk P w K mg base CX0 9 f fd ["_law_script"] (spLaw35 K) := by
  have c := c0.s
  have m : ex K = true := c.more
  unfold ex at m
  try simp only [Bool.and_eq_true] at m
  have T0 : Bt mg := ⟨(He.free_ok X G (c.fact 139 (f := .free "int") rfl)), (He.free_ok X G (c.fact 141 (f := .free "len") rfl)), (He.free_ok X G (c.fact 142 (f := .free "list") rfl)), (He.free_ok X G (c.fact 150 (f := .free "tuple") rfl)), (He.free_ok X G (c.fact 147 (f := .free "str") rfl)), (He.free_ok X G (c.fact 136 (f := .free "bool") rfl)), (He.free_ok X G (c.fact 143 (f := .free "max") rfl)), (He.free_ok X G (c.fact 144 (f := .free "min") rfl)), (He.free_ok X G (c.fact 134 (f := .free "all") rfl)), (He.free_ok X G (c.fact 135 (f := .free "any") rfl)), (He.free_ok X G (c.fact 148 (f := .free "sum") rfl)), (He.free_ok X G (c.fact 140 (f := .free "isinstance") rfl)), (He.free_ok X G (c.fact 151 (f := .free "zip") rfl)), (He.free_ok X G (c.fact 145 (f := .free "range") rfl)), (He.free_ok X G (c.fact 138 (f := .free "divmod") rfl))⟩
  have Tset := (He.free_ok X G (c.fact 146 (f := .free "set") rfl))
  have Tsuper := (He.free_ok X G (c.fact 149 (f := .free "super") rfl))
  have Tdict := (He.free_ok X G (c.fact 137 (f := .free "dict") rfl))
  have i_SMALL_BOTTOM := He.int_ok X G (c.fact 152 (f := .int "SMALL_BOTTOM" 12) rfl)
  have i_LONGEST_ROUTE := He.int_ok X G (c.fact 153 (f := .int "LONGEST_ROUTE" 5) rfl)
  have i_LONGEST_WAY := He.int_ok X G (c.fact 154 (f := .int "LONGEST_WAY" 20) rfl)
  have i_MOST_WEIGHT := He.int_ok X G (c.fact 155 (f := .int "MOST_WEIGHT" 12) rfl)
  have i_MOST_TRIES := He.int_ok X G (c.fact 156 (f := .int "MOST_TRIES" 12) rfl)
  have T1 : Bg mg := ⟨T0, PySem.W.mg_of X G (He.eqO_ok m.1.1.1.1.1.1.1.1.2)⟩
  have tup_ZERO : ∃ z, mg "ZERO" = some (.ref z) ∧ ∀ H, SqT K H z [.int 0, .int 1] := ⟨He.ga K "ZERO", PySem.W.mg_of X G (He.eqO_ok m.1.1.1.1.1.1.1.2), fun H => He.tupB_ok m.1.1.1.1.1.1.2 H⟩
  have tup_TOP : ∃ z, mg "TOP" = some (.ref z) ∧ ∀ H, SqT K H z [.int 1000, .int 1] := ⟨He.ga K "TOP", PySem.W.mg_of X G (He.eqO_ok m.1.1.1.1.1.2), fun H => He.tupB_ok m.1.1.1.1.2 H⟩
  have tup_LARGEST_BUFFER : ∃ z, mg "LARGEST_BUFFER" = some (.ref z) ∧ ∀ H, SqT K H z [.int 1000000, .int 1] := ⟨He.ga K "LARGEST_BUFFER", PySem.W.mg_of X G (He.eqO_ok m.1.1.1.2), fun H => He.tupB_ok m.1.1.2 H⟩
  have tup_KINDS : ∃ z, mg "KINDS" = some (.ref z) ∧ ∀ H, SqT K H z [.str "level", .str "eager", .str "window", .str "probe"] := ⟨He.ga K "KINDS", PySem.W.mg_of X G (He.eqO_ok m.1.2), fun H => He.tupB_ok m.2 H⟩
  have TFlow : Ct K mg "Flow" (He.ga K "Flow") ["name", "route", "buffers", "kind", "size", "weight", "least", "cap", "door", "way", "manner", "strange", "last"] := ⟨(He.glo_ok X G (c.fact 0 (f := .glo "Flow") rfl)), He.cls_ok (c.fact 1 (f := .cls "Flow") rfl), fun f hf => by
    simp only [List.mem_cons, List.not_mem_nil, or_false] at hf
    rcases hf with rfl | rfl | rfl | rfl | rfl | rfl | rfl | rfl | rfl | rfl | rfl | rfl | rfl
    · exact He.noat_ok (c.fact 2 (f := .noat "Flow" "name") rfl)
    · exact He.noat_ok (c.fact 3 (f := .noat "Flow" "route") rfl)
    · exact He.noat_ok (c.fact 4 (f := .noat "Flow" "buffers") rfl)
    · exact He.noat_ok (c.fact 5 (f := .noat "Flow" "kind") rfl)
    · exact He.noat_ok (c.fact 6 (f := .noat "Flow" "size") rfl)
    · exact He.noat_ok (c.fact 7 (f := .noat "Flow" "weight") rfl)
    · exact He.noat_ok (c.fact 8 (f := .noat "Flow" "least") rfl)
    · exact He.noat_ok (c.fact 9 (f := .noat "Flow" "cap") rfl)
    · exact He.noat_ok (c.fact 10 (f := .noat "Flow" "door") rfl)
    · exact He.noat_ok (c.fact 11 (f := .noat "Flow" "way") rfl)
    · exact He.noat_ok (c.fact 12 (f := .noat "Flow" "manner") rfl)
    · exact He.noat_ok (c.fact 13 (f := .noat "Flow" "strange") rfl)
    · exact He.noat_ok (c.fact 14 (f := .noat "Flow" "last") rfl)⟩
  have TSender : Ct K mg "Sender" (He.ga K "Sender") ["flow", "age", "total"] := ⟨(He.glo_ok X G (c.fact 18 (f := .glo "Sender") rfl)), He.cls_ok (c.fact 19 (f := .cls "Sender") rfl), fun f hf => by
    simp only [List.mem_cons, List.not_mem_nil, or_false] at hf
    rcases hf with rfl | rfl | rfl
    · exact He.noat_ok (c.fact 20 (f := .noat "Sender" "flow") rfl)
    · exact He.noat_ok (c.fact 21 (f := .noat "Sender" "age") rfl)
    · exact He.noat_ok (c.fact 22 (f := .noat "Sender" "total") rfl)⟩
  have TProbeSender : Ct K mg "ProbeSender" (He.ga K "ProbeSender") ["flow", "age", "total", "_bits", "_low", "_high", "_done", "_begun", "_rate"] := ⟨(He.glo_ok X G (c.fact 28 (f := .glo "ProbeSender") rfl)), He.cls_ok (c.fact 29 (f := .cls "ProbeSender") rfl), fun f hf => by
    simp only [List.mem_cons, List.not_mem_nil, or_false] at hf
    rcases hf with rfl | rfl | rfl | rfl | rfl | rfl | rfl | rfl | rfl
    · exact He.noat_ok (c.fact 30 (f := .noat "ProbeSender" "flow") rfl)
    · exact He.noat_ok (c.fact 31 (f := .noat "ProbeSender" "age") rfl)
    · exact He.noat_ok (c.fact 32 (f := .noat "ProbeSender" "total") rfl)
    · exact He.noat_ok (c.fact 33 (f := .noat "ProbeSender" "_bits") rfl)
    · exact He.noat_ok (c.fact 34 (f := .noat "ProbeSender" "_low") rfl)
    · exact He.noat_ok (c.fact 35 (f := .noat "ProbeSender" "_high") rfl)
    · exact He.noat_ok (c.fact 36 (f := .noat "ProbeSender" "_done") rfl)
    · exact He.noat_ok (c.fact 37 (f := .noat "ProbeSender" "_begun") rfl)
    · exact He.noat_ok (c.fact 38 (f := .noat "ProbeSender" "_rate") rfl)⟩
  have TLevelSender : Ct K mg "LevelSender" (He.ga K "LevelSender") ["flow", "age", "total", "_levels"] := ⟨(He.glo_ok X G (c.fact 46 (f := .glo "LevelSender") rfl)), He.cls_ok (c.fact 47 (f := .cls "LevelSender") rfl), fun f hf => by
    simp only [List.mem_cons, List.not_mem_nil, or_false] at hf
    rcases hf with rfl | rfl | rfl | rfl
    · exact He.noat_ok (c.fact 48 (f := .noat "LevelSender" "flow") rfl)
    · exact He.noat_ok (c.fact 49 (f := .noat "LevelSender" "age") rfl)
    · exact He.noat_ok (c.fact 50 (f := .noat "LevelSender" "total") rfl)
    · exact He.noat_ok (c.fact 51 (f := .noat "LevelSender" "_levels") rfl)⟩
  have TEagerSender : Ct K mg "EagerSender" (He.ga K "EagerSender") ["flow", "age", "total", "_door"] := ⟨(He.glo_ok X G (c.fact 57 (f := .glo "EagerSender") rfl)), He.cls_ok (c.fact 58 (f := .cls "EagerSender") rfl), fun f hf => by
    simp only [List.mem_cons, List.not_mem_nil, or_false] at hf
    rcases hf with rfl | rfl | rfl | rfl
    · exact He.noat_ok (c.fact 59 (f := .noat "EagerSender" "flow") rfl)
    · exact He.noat_ok (c.fact 60 (f := .noat "EagerSender" "age") rfl)
    · exact He.noat_ok (c.fact 61 (f := .noat "EagerSender" "total") rfl)
    · exact He.noat_ok (c.fact 62 (f := .noat "EagerSender" "_door") rfl)⟩
  have TWindowSender : Ct K mg "WindowSender" (He.ga K "WindowSender") ["flow", "age", "total", "_came"] := ⟨(He.glo_ok X G (c.fact 68 (f := .glo "WindowSender") rfl)), He.cls_ok (c.fact 69 (f := .cls "WindowSender") rfl), fun f hf => by
    simp only [List.mem_cons, List.not_mem_nil, or_false] at hf
    rcases hf with rfl | rfl | rfl | rfl
    · exact He.noat_ok (c.fact 70 (f := .noat "WindowSender" "flow") rfl)
    · exact He.noat_ok (c.fact 71 (f := .noat "WindowSender" "age") rfl)
    · exact He.noat_ok (c.fact 72 (f := .noat "WindowSender" "total") rfl)
    · exact He.noat_ok (c.fact 73 (f := .noat "WindowSender" "_came") rfl)⟩
  obtain ⟨Ty_Flow, Ki_Flow⟩ := Hk.tyB_ok m.1.1.1.1.1.1.1.1.1.1.1.1.1.1.2 (He.cls_ok (c.fact 1 (f := .cls "Flow") rfl))
  obtain ⟨Ty_Sender, Ki_Sender⟩ := Hk.tyB_ok m.1.1.1.1.1.1.1.1.1.1.1.1.1.2 (He.cls_ok (c.fact 19 (f := .cls "Sender") rfl))
  obtain ⟨Ty_LevelSender, Ki_LevelSender⟩ := Hk.tyB_ok m.1.1.1.1.1.1.1.1.1.1.1.1.2 (He.cls_ok (c.fact 47 (f := .cls "LevelSender") rfl))
  obtain ⟨Ty_EagerSender, Ki_EagerSender⟩ := Hk.tyB_ok m.1.1.1.1.1.1.1.1.1.1.1.2 (He.cls_ok (c.fact 58 (f := .cls "EagerSender") rfl))
  obtain ⟨Ty_WindowSender, Ki_WindowSender⟩ := Hk.tyB_ok m.1.1.1.1.1.1.1.1.1.1.2 (He.cls_ok (c.fact 69 (f := .cls "WindowSender") rfl))
  obtain ⟨Ty_ProbeSender, Ki_ProbeSender⟩ := Hk.tyB_ok m.1.1.1.1.1.1.1.1.1.2 (He.cls_ok (c.fact 29 (f := .cls "ProbeSender") rfl))
  obtain ⟨d_added, D_added⟩ := c.def_ 7 (d := dD "_added" 18) rfl
  obtain ⟨d_product, D_product⟩ := c.def_ 9 (d := dD "_product" 20) rfl
  obtain ⟨d_times, D_times⟩ := c.def_ 8 (d := dD "times" 19) rfl
  obtain ⟨d_compare, D_compare⟩ := c.def_ 10 (d := dD "compare" 21) rfl
  obtain ⟨d_minus, D_minus⟩ := c.def_ 6 (d := dD "minus" 17) rfl
  obtain ⟨d_plus, D_plus⟩ := c.def_ 5 (d := dD "plus" 16) rfl
  obtain ⟨d_smallest, D_smallest⟩ := c.def_ 11 (d := dD "smallest" 22) rfl
  obtain ⟨d_largest, D_largest⟩ := c.def_ 12 (d := dD "largest" 23) rfl
  obtain ⟨d_is_number, D_is_number⟩ := c.def_ 0 (d := dD "is_number" 3) rfl
  obtain ⟨d_is_amount, D_is_amount⟩ := c.def_ 3 (d := dD "is_amount" 14) rfl
  obtain ⟨d_share, D_share⟩ := c.def_ 14 (d := dD "share" 26) rfl
  obtain ⟨d_law_bag, D_law_bag⟩ := c.def_ 25 (d := dD "_law_bag" 52) rfl
  obtain ⟨d_law_draw, D_law_draw⟩ := c.def_ 26 (d := dD "_law_draw" 53) rfl
  obtain ⟨d_law_of, D_law_of⟩ := c.def_ 27 (d := dD "_law_of" 54) rfl
  obtain ⟨d_law_mixed, D_law_mixed⟩ := c.def_ 28 (d := dD "_law_mixed" 55) rfl
  obtain ⟨d_law_amount, D_law_amount⟩ := c.def_ 29 (d := dD "_law_amount" 56) rfl
  obtain ⟨d_law_sum, D_law_sum⟩ := c.def_ 30 (d := dD "_law_sum" 57) rfl
  obtain ⟨d_law_rest, D_law_rest⟩ := c.def_ 31 (d := dD "_law_rest" 58) rfl
  obtain ⟨d_law_less, D_law_less⟩ := c.def_ 33 (d := dD "_law_less" 60) rfl
  obtain ⟨d_law_min, D_law_min⟩ := c.def_ 34 (d := dD "_law_min" 61) rfl
  obtain ⟨d_law_max, D_law_max⟩ := c.def_ 35 (d := dD "_law_max" 62) rfl
  obtain ⟨d_law_scaled, D_law_scaled⟩ := c.def_ 32 (d := dD "_law_scaled" 59) rfl
  obtain ⟨d_law_same, D_law_same⟩ := c.def_ 36 (d := dD "_law_same" 63) rfl
  obtain ⟨d_law_some, D_law_some⟩ := c.def_ 37 (d := dD "_law_some" 64) rfl
  obtain ⟨d_law_part, D_law_part⟩ := c.def_ 38 (d := dD "_law_part" 65) rfl
  obtain ⟨d_is_name, D_is_name⟩ := c.def_ 2 (d := dD "is_name" 5) rfl
  obtain ⟨d_is_number_within, D_is_number_within⟩ := c.def_ 1 (d := dD "is_number_within" 4) rfl
  obtain ⟨d_is_small, D_is_small⟩ := c.def_ 4 (d := dD "is_small" 15) rfl
  obtain ⟨d_is_size, D_is_size⟩ := c.def_ 20 (d := dD "_is_size" 46) rfl
  obtain ⟨d_are_buffers, D_are_buffers⟩ := c.def_ 19 (d := dD "_are_buffers" 45) rfl
  obtain ⟨d_fits_kind, D_fits_kind⟩ := c.def_ 22 (d := dD "_fits_kind" 48) rfl
  obtain ⟨d_check_kind, D_check_kind⟩ := c.def_ 21 (d := dD "_check_kind" 47) rfl
  obtain ⟨d_check_promise, D_check_promise⟩ := c.def_ 23 (d := dD "_check_promise" 49) rfl
  obtain ⟨d_is_manner, D_is_manner⟩ := c.def_ 13 (d := dD "is_manner" 25) rfl
  obtain ⟨d_is_manner_within, D_is_manner_within⟩ := c.def_ 24 (d := dD "_is_manner_within" 50) rfl
  obtain ⟨d_is_route, D_is_route⟩ := c.def_ 18 (d := dD "_is_route" 44) rfl
  obtain ⟨d_check_place, D_check_place⟩ := c.def_ 17 (d := dD "_check_place" 43) rfl
  obtain ⟨d_Flow___init__, D_Flow___init__⟩ := c.def_ 53 (d := ⟨fun K => He.ma K (He.ga K "Flow") "__init__", "__init__", "Flow.__init__", defArgs (inClass (top 42) 0), defBody (inClass (top 42) 0), defScope (inClass (top 42) 0), [], [("kind", .str "level"), ("size", .non), ("weight", .int 1), ("least", .glo "ZERO"), ("cap", .glo "TOP"), ("door", .non), ("way", .int 1), ("manner", .non), ("strange", .bl false)]⟩) rfl
  obtain ⟨d_law_name, D_law_name⟩ := c.def_ 39 (d := dD "_law_name" 66) rfl
  obtain ⟨d_law_above, D_law_above⟩ := c.def_ 40 (d := dD "_law_above" 67) rfl
  obtain ⟨d_law_wish, D_law_wish⟩ := c.def_ 41 (d := dD "_law_wish" 68) rfl
  obtain ⟨d_law_flow, D_law_flow⟩ := c.def_ 42 (d := dD "_law_flow" 69) rfl
  obtain ⟨d_law_made_flow, D_law_made_flow⟩ := c.def_ 43 (d := dD "_law_made_flow" 70) rfl
  obtain ⟨d_Flow___eq__, D_Flow___eq__⟩ := c.def_ 54 (d := ⟨fun K => He.ma K (He.ga K "Flow") "__eq__", "__eq__", "Flow.__eq__", defArgs (inClass (top 42) 7), defBody (inClass (top 42) 7), defScope (inClass (top 42) 7), [], []⟩) rfl
  obtain ⟨d_Sender___init__, D_Sender___init__⟩ := c.def_ 55 (d := ⟨fun K => He.ma K (He.ga K "Sender") "__init__", "__init__", "Sender.__init__", defArgs (inClass (top 28) 0), defBody (inClass (top 28) 0), defScope (inClass (top 28) 0), [], []⟩) rfl
  obtain ⟨D_LevelSender___init__, U_LevelSender___init__⟩ := c0.sup P hPf hPs 0 (⟨fun K => He.ma K (He.ga K "LevelSender") "__init__", fun K => He.ga K "LevelSender", fun K => He.ma K (He.ga K "Sender") "__init__", "__init__", "__init__", "LevelSender.__init__", defArgs (inClass (top 29) 0), defBody (inClass (top 29) 0), defScope (inClass (top 29) 0)⟩) rfl
  obtain ⟨D_EagerSender___init__, U_EagerSender___init__⟩ := c0.sup P hPf hPs 1 (⟨fun K => He.ma K (He.ga K "EagerSender") "__init__", fun K => He.ga K "EagerSender", fun K => He.ma K (He.ga K "Sender") "__init__", "__init__", "__init__", "EagerSender.__init__", defArgs (inClass (top 30) 0), defBody (inClass (top 30) 0), defScope (inClass (top 30) 0)⟩) rfl
  obtain ⟨D_WindowSender___init__, U_WindowSender___init__⟩ := c0.sup P hPf hPs 2 (⟨fun K => He.ma K (He.ga K "WindowSender") "__init__", fun K => He.ga K "WindowSender", fun K => He.ma K (He.ga K "Sender") "__init__", "__init__", "__init__", "WindowSender.__init__", defArgs (inClass (top 31) 0), defBody (inClass (top 31) 0), defScope (inClass (top 31) 0)⟩) rfl
  obtain ⟨d_ProbeSender_force, D_ProbeSender_force⟩ := c.def_ 56 (d := ⟨fun K => He.ma K (He.ga K "ProbeSender") "force", "force", "ProbeSender.force", defArgs (inClass (top 32) 5), defBody (inClass (top 32) 5), defScope (inClass (top 32) 5), [], []⟩) rfl
  obtain ⟨d_Flow_channel_of, D_Flow_channel_of⟩ := c.def_ 57 (d := ⟨fun K => He.ma K (He.ga K "Flow") "channel_of", "channel_of", "Flow.channel_of", defArgs (inClass (top 42) 2), defBody (inClass (top 42) 2), defScope (inClass (top 42) 2), [], []⟩) rfl
  obtain ⟨D_ProbeSender___init__, U_ProbeSender___init__⟩ := c0.sup P hPf hPs 3 (⟨fun K => He.ma K (He.ga K "ProbeSender") "__init__", fun K => He.ga K "ProbeSender", fun K => He.ma K (He.ga K "Sender") "__init__", "__init__", "__init__", "ProbeSender.__init__", defArgs (inClass (top 32) 0), defBody (inClass (top 32) 0), defScope (inClass (top 32) 0)⟩) rfl
  obtain ⟨d_Sender_note_sent_of_Sender, D_Sender_note_sent_of_Sender⟩ := c.def_ 58 (d := ⟨fun K => He.ma K (He.ga K "Sender") "note_sent", "note_sent", "Sender.note_sent", defArgs (inClass (top 28) 2), defBody (inClass (top 28) 2), defScope (inClass (top 28) 2), [], []⟩) rfl
  obtain ⟨d_Sender_note_sent_of_LevelSender, D_Sender_note_sent_of_LevelSender⟩ := c.def_ 59 (d := ⟨fun K => He.ma K (He.ga K "LevelSender") "note_sent", "note_sent", "Sender.note_sent", defArgs (inClass (top 28) 2), defBody (inClass (top 28) 2), defScope (inClass (top 28) 2), [], []⟩) rfl
  obtain ⟨d_Sender_note_sent_of_EagerSender, D_Sender_note_sent_of_EagerSender⟩ := c.def_ 60 (d := ⟨fun K => He.ma K (He.ga K "EagerSender") "note_sent", "note_sent", "Sender.note_sent", defArgs (inClass (top 28) 2), defBody (inClass (top 28) 2), defScope (inClass (top 28) 2), [], []⟩) rfl
  obtain ⟨d_Sender_note_sent_of_WindowSender, D_Sender_note_sent_of_WindowSender⟩ := c.def_ 61 (d := ⟨fun K => He.ma K (He.ga K "WindowSender") "note_sent", "note_sent", "Sender.note_sent", defArgs (inClass (top 28) 2), defBody (inClass (top 28) 2), defScope (inClass (top 28) 2), [], []⟩) rfl
  obtain ⟨d_Sender_note_sent_of_ProbeSender, D_Sender_note_sent_of_ProbeSender⟩ := c.def_ 62 (d := ⟨fun K => He.ma K (He.ga K "ProbeSender") "note_sent", "note_sent", "Sender.note_sent", defArgs (inClass (top 28) 2), defBody (inClass (top 28) 2), defScope (inClass (top 28) 2), [], []⟩) rfl
  obtain ⟨d_with_total, D_with_total⟩ := c.def_ 16 (d := dD "_with_total" 34) rfl
  obtain ⟨d_Sender_asks_of_Sender, D_Sender_asks_of_Sender⟩ := c.def_ 63 (d := ⟨fun K => He.ma K (He.ga K "Sender") "asks", "asks", "Sender.asks", defArgs (inClass (top 28) 3), defBody (inClass (top 28) 3), defScope (inClass (top 28) 3), [], []⟩) rfl
  obtain ⟨d_Sender_asks_of_LevelSender, D_Sender_asks_of_LevelSender⟩ := c.def_ 64 (d := ⟨fun K => He.ma K (He.ga K "LevelSender") "asks", "asks", "Sender.asks", defArgs (inClass (top 28) 3), defBody (inClass (top 28) 3), defScope (inClass (top 28) 3), [], []⟩) rfl
  obtain ⟨d_Sender_asks_of_EagerSender, D_Sender_asks_of_EagerSender⟩ := c.def_ 65 (d := ⟨fun K => He.ma K (He.ga K "EagerSender") "asks", "asks", "Sender.asks", defArgs (inClass (top 28) 3), defBody (inClass (top 28) 3), defScope (inClass (top 28) 3), [], []⟩) rfl
  obtain ⟨d_Sender_asks_of_WindowSender, D_Sender_asks_of_WindowSender⟩ := c.def_ 66 (d := ⟨fun K => He.ma K (He.ga K "WindowSender") "asks", "asks", "Sender.asks", defArgs (inClass (top 28) 3), defBody (inClass (top 28) 3), defScope (inClass (top 28) 3), [], []⟩) rfl
  obtain ⟨d_Sender_offer, D_Sender_offer⟩ := c.def_ 67 (d := ⟨fun K => He.ma K (He.ga K "Sender") "offer", "offer", "Sender.offer", defArgs (inClass (top 28) 1), defBody (inClass (top 28) 1), defScope (inClass (top 28) 1), [], []⟩) rfl
  obtain ⟨d_EagerSender_offer, D_EagerSender_offer⟩ := c.def_ 68 (d := ⟨fun K => He.ma K (He.ga K "EagerSender") "offer", "offer", "EagerSender.offer", defArgs (inClass (top 30) 1), defBody (inClass (top 30) 1), defScope (inClass (top 30) 1), [], []⟩) rfl
  obtain ⟨d_LevelSender_offer, D_LevelSender_offer⟩ := c.def_ 69 (d := ⟨fun K => He.ma K (He.ga K "LevelSender") "offer", "offer", "LevelSender.offer", defArgs (inClass (top 29) 1), defBody (inClass (top 29) 1), defScope (inClass (top 29) 1), [], []⟩) rfl
  obtain ⟨d_WindowSender_offer, D_WindowSender_offer⟩ := c.def_ 70 (d := ⟨fun K => He.ma K (He.ga K "WindowSender") "offer", "offer", "WindowSender.offer", defArgs (inClass (top 31) 1), defBody (inClass (top 31) 1), defScope (inClass (top 31) 1), [], []⟩) rfl
  obtain ⟨d_ProbeSender_asks, D_ProbeSender_asks⟩ := c.def_ 71 (d := ⟨fun K => He.ma K (He.ga K "ProbeSender") "asks", "asks", "ProbeSender.asks", defArgs (inClass (top 32) 2), defBody (inClass (top 32) 2), defScope (inClass (top 32) 2), [], []⟩) rfl
  obtain ⟨d_ProbeSender__end_try, D_ProbeSender__end_try⟩ := c.def_ 72 (d := ⟨fun K => He.ma K (He.ga K "ProbeSender") "_end_try", "_end_try", "ProbeSender._end_try", defArgs (inClass (top 32) 6), defBody (inClass (top 32) 6), defScope (inClass (top 32) 6), [], []⟩) rfl
  obtain ⟨d_ProbeSender_offer, D_ProbeSender_offer⟩ := c.def_ 73 (d := ⟨fun K => He.ma K (He.ga K "ProbeSender") "offer", "offer", "ProbeSender.offer", defArgs (inClass (top 32) 1), defBody (inClass (top 32) 1), defScope (inClass (top 32) 1), [], []⟩) rfl
  obtain ⟨d_Sender_copy, D_Sender_copy⟩ := c.def_ 74 (d := ⟨fun K => He.ma K (He.ga K "Sender") "copy", "copy", "Sender.copy", defArgs (inClass (top 28) 4), defBody (inClass (top 28) 4), defScope (inClass (top 28) 4), [], []⟩) rfl
  obtain ⟨d_LevelSender_copy, D_LevelSender_copy⟩ := c.def_ 75 (d := ⟨fun K => He.ma K (He.ga K "LevelSender") "copy", "copy", "LevelSender.copy", defArgs (inClass (top 29) 2), defBody (inClass (top 29) 2), defScope (inClass (top 29) 2), [], []⟩) rfl
  obtain ⟨d_EagerSender_copy, D_EagerSender_copy⟩ := c.def_ 76 (d := ⟨fun K => He.ma K (He.ga K "EagerSender") "copy", "copy", "EagerSender.copy", defArgs (inClass (top 30) 2), defBody (inClass (top 30) 2), defScope (inClass (top 30) 2), [], []⟩) rfl
  obtain ⟨d_WindowSender_copy, D_WindowSender_copy⟩ := c.def_ 77 (d := ⟨fun K => He.ma K (He.ga K "WindowSender") "copy", "copy", "WindowSender.copy", defArgs (inClass (top 31) 2), defBody (inClass (top 31) 2), defScope (inClass (top 31) 2), [], []⟩) rfl
  obtain ⟨d_ProbeSender_copy, D_ProbeSender_copy⟩ := c.def_ 78 (d := ⟨fun K => He.ma K (He.ga K "ProbeSender") "copy", "copy", "ProbeSender.copy", defArgs (inClass (top 32) 3), defBody (inClass (top 32) 3), defScope (inClass (top 32) 3), [], []⟩) rfl
  obtain ⟨d_sender_of, D_sender_of⟩ := c.def_ 15 (d := dD "sender_of" 33) rfl
  obtain ⟨d_law_new, D_law_new⟩ := c.def_ 45 (d := dD "_law_new" 72) rfl
  obtain ⟨d_law_class, D_law_class⟩ := c.def_ 46 (d := dD "_law_class" 73) rfl
  obtain ⟨d_law_half, D_law_half⟩ := c.def_ 48 (d := dD "_law_half" 75) rfl
  obtain ⟨d_law_searched, D_law_searched⟩ := c.def_ 49 (d := dD "_law_searched" 76) rfl
  obtain ⟨d_law_share, D_law_share⟩ := c.def_ 44 (d := dD "_law_share" 71) rfl
  obtain ⟨d_law_due, D_law_due⟩ := c.def_ 50 (d := dD "_law_due" 77) rfl
  obtain ⟨d_law_hears, D_law_hears⟩ := c.def_ 47 (d := dD "_law_hears" 74) rfl
  obtain ⟨d_law_step, D_law_step⟩ := c.def_ 51 (d := dD "_law_step" 78) rfl
  obtain ⟨d_law, D_law⟩ := c.def_ 52 (d := dD "law" 79) rfl
  have e := hfa.symm.trans (He.glo_ok X G (c.fact 132 (f := .glo "law") rfl))
  cases e
  refine ⟨d_law, fun s v => (FunD.bindsA (ps := ["_law_script"]) D_law fun _ _ _ _ _ _ us hl => match us, hl with | [_], _ => rfl) s [v] rfl, fun base _ _ => ?_⟩
  have kit : KitS (He.ga K "Sender") (He.ga K "LevelSender") (He.ga K "EagerSender") (He.ga K "WindowSender") (He.ga K "ProbeSender") K := ⟨fun c => match c with | .no => Ty_Sender | .lv => Ty_LevelSender | .eg => Ty_EagerSender | .wi => Ty_WindowSender | .pr => Ty_ProbeSender, fun c => match c with | .no => of_decide_eq_true m.1.1.1.1.1.1.1.1.1.1.1.1.1.1.1.1.1.1.1.1.1.1.1.1.1.1.1.1.1.1.1.1.1.1.1.1.1.1.1 | .lv => of_decide_eq_true m.1.1.1.1.1.1.1.1.1.1.1.1.1.1.1.1.1.1.1.1.1.1.1.1.1.1.1.1.1.1.1.1.1.1.1.1.1.1.2 | .eg => of_decide_eq_true m.1.1.1.1.1.1.1.1.1.1.1.1.1.1.1.1.1.1.1.1.1.1.1.1.1.1.1.1.1.1.1.1.1.1.1.1.1.2 | .wi => of_decide_eq_true m.1.1.1.1.1.1.1.1.1.1.1.1.1.1.1.1.1.1.1.1.1.1.1.1.1.1.1.1.1.1.1.1.1.1.1.1.2 | .pr => of_decide_eq_true m.1.1.1.1.1.1.1.1.1.1.1.1.1.1.1.1.1.1.1.1.1.1.1.1.1.1.1.1.1.1.1.1.1.1.1.2, fun c => match c with | .no => of_decide_eq_true m.1.1.1.1.1.1.1.1.1.1.1.1.1.1.1.1.1.1.1.1.1.1.1.1.1.1.1.1.1.1.1.1.1.1.2 | .lv => of_decide_eq_true m.1.1.1.1.1.1.1.1.1.1.1.1.1.1.1.1.1.1.1.1.1.1.1.1.1.1.1.1.1.1.1.1.1.2 | .eg => of_decide_eq_true m.1.1.1.1.1.1.1.1.1.1.1.1.1.1.1.1.1.1.1.1.1.1.1.1.1.1.1.1.1.1.1.1.2 | .wi => of_decide_eq_true m.1.1.1.1.1.1.1.1.1.1.1.1.1.1.1.1.1.1.1.1.1.1.1.1.1.1.1.1.1.1.1.2 | .pr => of_decide_eq_true m.1.1.1.1.1.1.1.1.1.1.1.1.1.1.1.1.1.1.1.1.1.1.1.1.1.1.1.1.1.1.2, fun c => match c with | .no => of_decide_eq_true m.1.1.1.1.1.1.1.1.1.1.1.1.1.1.1.1.1.1.1.1.1.1.1.1.1.1.1.1.1.2 | .lv => of_decide_eq_true m.1.1.1.1.1.1.1.1.1.1.1.1.1.1.1.1.1.1.1.1.1.1.1.1.1.1.1.1.2 | .eg => of_decide_eq_true m.1.1.1.1.1.1.1.1.1.1.1.1.1.1.1.1.1.1.1.1.1.1.1.1.1.1.1.2 | .wi => of_decide_eq_true m.1.1.1.1.1.1.1.1.1.1.1.1.1.1.1.1.1.1.1.1.1.1.1.1.1.1.2 | .pr => of_decide_eq_true m.1.1.1.1.1.1.1.1.1.1.1.1.1.1.1.1.1.1.1.1.1.1.1.1.1.2, fun c => match c with | .no => of_decide_eq_true m.1.1.1.1.1.1.1.1.1.1.1.1.1.1.1.1.1.1.1.1.1.1.1.1.2 | .lv => of_decide_eq_true m.1.1.1.1.1.1.1.1.1.1.1.1.1.1.1.1.1.1.1.1.1.1.1.2 | .eg => of_decide_eq_true m.1.1.1.1.1.1.1.1.1.1.1.1.1.1.1.1.1.1.1.1.1.1.2 | .wi => of_decide_eq_true m.1.1.1.1.1.1.1.1.1.1.1.1.1.1.1.1.1.1.1.1.1.2 | .pr => of_decide_eq_true m.1.1.1.1.1.1.1.1.1.1.1.1.1.1.1.1.1.1.1.1.2, fun c => match c with | .no => of_decide_eq_true m.1.1.1.1.1.1.1.1.1.1.1.1.1.1.1.1.1.1.1.2 | .lv => of_decide_eq_true m.1.1.1.1.1.1.1.1.1.1.1.1.1.1.1.1.1.1.2 | .eg => of_decide_eq_true m.1.1.1.1.1.1.1.1.1.1.1.1.1.1.1.1.1.2 | .wi => of_decide_eq_true m.1.1.1.1.1.1.1.1.1.1.1.1.1.1.1.1.2 | .pr => of_decide_eq_true m.1.1.1.1.1.1.1.1.1.1.1.1.1.1.1.2⟩
  have TU_Sender := ctU5 TSender TLevelSender TEagerSender TWindowSender TProbeSender
  have F_added := f_added (P := P) (w := w) (base := base) D_added (He.glo_ok X G (c.fact 87 (f := .glo "_added") rfl)) T1
  have F_product := f_product (P := P) (w := w) (base := base) D_product (He.glo_ok X G (c.fact 89 (f := .glo "_product") rfl)) T1
  have Ftimes := f_times (P := P) (w := w) (base := base) D_times (He.glo_ok X G (c.fact 88 (f := .glo "times") rfl)) F_product
  have Fcompare := f_compare (P := P) (w := w) (base := base) D_compare (He.glo_ok X G (c.fact 90 (f := .glo "compare") rfl)) 
  have Fminus := f_minus (P := P) (w := w) (base := base) D_minus (He.glo_ok X G (c.fact 86 (f := .glo "minus") rfl)) Fcompare F_added
  have Fplus := f_plus (P := P) (w := w) (base := base) D_plus (He.glo_ok X G (c.fact 85 (f := .glo "plus") rfl)) tup_ZERO F_added
  have Fsmallest := f_smallest (P := P) (w := w) (base := base) D_smallest (He.glo_ok X G (c.fact 91 (f := .glo "smallest") rfl)) Fcompare
  have Flargest := f_largest (P := P) (w := w) (base := base) D_largest (He.glo_ok X G (c.fact 92 (f := .glo "largest") rfl)) Fcompare
  have Fis_number := f_is_number (P := P) (w := w) (base := base) D_is_number (He.glo_ok X G (c.fact 80 (f := .glo "is_number") rfl)) T0
  have Fis_amount := f_is_amount (P := P) (w := w) (base := base) D_is_amount (He.glo_ok X G (c.fact 83 (f := .glo "is_amount") rfl)) T1 Fis_number
  have Oshare := f_share (P := P) (w := w) (base := base) D_share (He.glo_ok X G (c.fact 94 (f := .glo "share") rfl)) tup_ZERO Ftimes Fsmallest Flargest
  have Fshare := fn_of_ok D_share (He.glo_ok X G (c.fact 94 (f := .glo "share") rfl)) Oshare (fun _ _ _ _ _ _ us hl => match us, hl with | [_, _, _], _ => rfl)
  have F_law_bag := f_law_bag (P := P) (w := w) (base := base) D_law_bag (He.glo_ok X G (c.fact 105 (f := .glo "_law_bag") rfl)) T0
  have F_law_draw := f_law_draw (P := P) (w := w) (base := base) D_law_draw (He.glo_ok X G (c.fact 106 (f := .glo "_law_draw") rfl)) T0
  have F_law_of := f_law_of (P := P) (w := w) (base := base) D_law_of (He.glo_ok X G (c.fact 107 (f := .glo "_law_of") rfl)) T0 F_law_draw
  have F_law_mixed := f_law_mixed (P := P) (w := w) (base := base) D_law_mixed (He.glo_ok X G (c.fact 108 (f := .glo "_law_mixed") rfl)) T0 F_law_draw
  have F_law_amount := f_law_amount (P := P) (w := w) (base := base) D_law_amount (He.glo_ok X G (c.fact 109 (f := .glo "_law_amount") rfl)) T0
  have F_law_sum := f_law_sum (P := P) (w := w) (base := base) D_law_sum (He.glo_ok X G (c.fact 110 (f := .glo "_law_sum") rfl)) F_law_amount
  have F_law_rest := f_law_rest (P := P) (w := w) (base := base) D_law_rest (He.glo_ok X G (c.fact 111 (f := .glo "_law_rest") rfl)) T0 F_law_amount
  have F_law_less := f_law_less (P := P) (w := w) (base := base) D_law_less (He.glo_ok X G (c.fact 113 (f := .glo "_law_less") rfl)) 
  have F_law_min := f_law_min (P := P) (w := w) (base := base) D_law_min (He.glo_ok X G (c.fact 114 (f := .glo "_law_min") rfl)) F_law_less
  have F_law_max := f_law_max (P := P) (w := w) (base := base) D_law_max (He.glo_ok X G (c.fact 115 (f := .glo "_law_max") rfl)) F_law_less
  have F_law_scaled := f_law_scaled (P := P) (w := w) (base := base) D_law_scaled (He.glo_ok X G (c.fact 112 (f := .glo "_law_scaled") rfl)) F_law_amount
  have F_law_same0 : Fn P w K mg base 0 "_law_same" (spLike K 0) := fn_none D_law_same (He.glo_ok X G (c.fact 116 (f := .glo "_law_same") rfl))
  have F_law_same1 := f_law_same D_law_same (He.glo_ok X G (c.fact 116 (f := .glo "_law_same") rfl)) T0 0 F_law_same0
  have F_law_same2 := f_law_same D_law_same (He.glo_ok X G (c.fact 116 (f := .glo "_law_same") rfl)) T0 1 F_law_same1
  have F_law_same3 := f_law_same D_law_same (He.glo_ok X G (c.fact 116 (f := .glo "_law_same") rfl)) T0 2 F_law_same2
  have F_law_same4 := f_law_same D_law_same (He.glo_ok X G (c.fact 116 (f := .glo "_law_same") rfl)) T0 3 F_law_same3
  have F_law_same := F_law_same4
  have F_law_some := f_law_some (P := P) (w := w) (base := base) D_law_some (He.glo_ok X G (c.fact 117 (f := .glo "_law_some") rfl)) T0 F_law_draw F_law_of F_law_amount
  have F_law_part := f_law_part (P := P) (w := w) (base := base) D_law_part (He.glo_ok X G (c.fact 118 (f := .glo "_law_part") rfl)) T0 F_law_of F_law_scaled
  have Gplus := g_plus (P := P) (w := w) (base := base) D_plus (He.glo_ok X G (c.fact 85 (f := .glo "plus") rfl)) tup_ZERO F_added
  have Fis_name := f_is_name (P := P) (w := w) (base := base) D_is_name (He.glo_ok X G (c.fact 82 (f := .glo "is_name") rfl)) T0
  have Fis_number_within := f_is_number_within (P := P) (w := w) (base := base) D_is_number_within (He.glo_ok X G (c.fact 81 (f := .glo "is_number_within") rfl)) Fis_number
  have Fis_small := f_is_small (P := P) (w := w) (base := base) D_is_small (He.glo_ok X G (c.fact 84 (f := .glo "is_small") rfl)) tup_TOP i_SMALL_BOTTOM Fis_amount Fcompare
  have F_is_size := f_is_size (P := P) (w := w) (base := base) D_is_size (He.glo_ok X G (c.fact 100 (f := .glo "_is_size") rfl)) tup_LARGEST_BUFFER Fis_amount Fcompare
  have F_are_buffers := f_are_buffers (P := P) (w := w) (base := base) D_are_buffers (He.glo_ok X G (c.fact 99 (f := .glo "_are_buffers") rfl)) T0 F_is_size
  have F_fits_kind := f_fits_kind (P := P) (w := w) (base := base) D_fits_kind (He.glo_ok X G (c.fact 102 (f := .glo "_fits_kind") rfl)) i_MOST_TRIES F_is_size Fis_number_within
  have F_check_kind := f_check_kind (P := P) (w := w) (base := base) D_check_kind (He.glo_ok X G (c.fact 101 (f := .glo "_check_kind") rfl)) tup_KINDS F_fits_kind
  have F_check_promise := f_check_promise (P := P) (w := w) (base := base) D_check_promise (He.glo_ok X G (c.fact 103 (f := .glo "_check_promise") rfl)) i_MOST_WEIGHT Fis_number_within Fis_small Fcompare
  have Fis_manner := f_is_manner (P := P) (w := w) (base := base) D_is_manner (He.glo_ok X G (c.fact 93 (f := .glo "is_manner") rfl)) T0 Fis_amount Fcompare
  have F_is_manner_within := f_is_manner_within (P := P) (w := w) (base := base) D_is_manner_within (He.glo_ok X G (c.fact 104 (f := .glo "_is_manner_within") rfl)) Fis_manner Fcompare
  have F_is_route := f_is_route (P := P) (w := w) (base := base) D_is_route (He.glo_ok X G (c.fact 98 (f := .glo "_is_route") rfl)) T0 Tset i_LONGEST_ROUTE Fis_name
  have F_check_place := f_check_place (P := P) (w := w) (base := base) D_check_place (He.glo_ok X G (c.fact 97 (f := .glo "_check_place") rfl)) T0 Fis_name F_is_route F_are_buffers
  have OFlow___init__ := f_Flow___init__ (P := P) (w := w) (base := base) (cF := He.ga K "Flow") D_Flow___init__ T0 i_LONGEST_WAY TFlow F_check_place F_check_kind F_check_promise Fis_small Fcompare Fis_number_within F_is_manner_within
  have KFlow_3_kind_size_weight_least_cap_door_way_manner_strange : CrK P w K mg base 6 "Flow" (He.ga K "Flow") 3 ["kind", "size", "weight", "least", "cap", "door", "way", "manner", "strange"] (fun vs zs => vs ++ zs) (spFlowInit (He.ga K "Flow") K) := ⟨_, d_Flow___init__, _, _, (He.glo_ok X G (c.fact 0 (f := .glo "Flow") rfl)), He.mkr_ok (c.fact 15 (f := .mkr "Flow") rfl), OFlow___init__, Hk.kbn_of D_Flow___init__ (fun _ _ _ _ _ _ us ws h1 h2 => match us, ws, h1, h2 with | [_, _, _, _], [_, _, _, _, _, _, _, _, _], _, _ => rfl)⟩
  have G_law_of := g_law_of (P := P) (w := w) (base := base) D_law_of (He.glo_ok X G (c.fact 107 (f := .glo "_law_of") rfl)) T0 F_law_draw
  have F_law_name := f_law_name (P := P) (w := w) (base := base) D_law_name (He.glo_ok X G (c.fact 119 (f := .glo "_law_name") rfl)) T0 F_law_draw F_law_of G_law_of
  have G_law_some := g_law_some (P := P) (w := w) (base := base) D_law_some (He.glo_ok X G (c.fact 117 (f := .glo "_law_some") rfl)) T0 F_law_draw F_law_of F_law_amount
  have F_law_above := f_law_above (P := P) (w := w) (base := base) D_law_above (He.glo_ok X G (c.fact 120 (f := .glo "_law_above") rfl)) T0 F_law_draw G_law_some F_law_sum F_law_less
  have F_law_wish := f_law_wish (P := P) (w := w) (base := base) D_law_wish (He.glo_ok X G (c.fact 121 (f := .glo "_law_wish") rfl)) T0 F_law_draw G_law_some F_law_part F_law_sum F_law_rest F_law_min F_law_max
  have F_law_flow := f_law_flow (P := P) (w := w) (base := base) D_law_flow (He.glo_ok X G (c.fact 122 (f := .glo "_law_flow") rfl)) T0 F_law_draw F_law_of G_law_some F_law_part F_law_sum F_law_rest F_law_min F_law_less F_law_above F_law_wish
  have F_law_made_flow := f_law_made_flow (P := P) (w := w) (base := base) (cF := He.ga K "Flow") D_law_made_flow (He.glo_ok X G (c.fact 123 (f := .glo "_law_made_flow") rfl)) KFlow_3_kind_size_weight_least_cap_door_way_manner_strange
  have OFlow___eq__ := f_Flow___eq__ (P := P) (w := w) (base := base) (cF := He.ga K "Flow") D_Flow___eq__ T0 Ty_Flow Ki_Flow TFlow
  have EFlow : Oe P w K mg base 1 (He.ga K "Flow") (FlowR (He.ga K "Flow") K) := ⟨_, _, _, OFlow___eq__, He.meth_ok (c.fact 16 (f := .meth "Flow" "__eq__") rfl), FunD.bindsN D_Flow___eq__ (fun _ _ _ _ _ _ us hl => match us, hl with | [_, _], _ => rfl)⟩
  have OSender___init__ := f_Sender___init__ (P := P) (w := w) (base := base) (cS := He.ga K "Sender") (cL := He.ga K "LevelSender") (cE := He.ga K "EagerSender") (cW := He.ga K "WindowSender") (cP := He.ga K "ProbeSender") D_Sender___init__ tup_ZERO TU_Sender
  have RSender := cr_of (He.glo_ok X G (c.fact 18 (f := .glo "Sender") rfl)) (He.mkr_ok (c.fact 23 (f := .mkr "Sender") rfl)) (raw_meth D_Sender___init__ OSender___init__ (fun _ _ _ _ _ _ us hl => match us, hl with | [_, _, _], _ => rfl))
  have RLevelSender := cr_of (He.glo_ok X G (c.fact 46 (f := .glo "LevelSender") rfl)) (He.mkr_ok (c.fact 52 (f := .mkr "LevelSender") rfl)) (f_LevelSender___init__ (P := P) (w := w) (base := base) D_LevelSender___init__ U_LevelSender___init__ (raw_meth D_Sender___init__ OSender___init__ (fun _ _ _ _ _ _ us hl => match us, hl with | [_, _, _], _ => rfl)) Tsuper TLevelSender TFlow)
  have REagerSender := cr_of (He.glo_ok X G (c.fact 57 (f := .glo "EagerSender") rfl)) (He.mkr_ok (c.fact 63 (f := .mkr "EagerSender") rfl)) (f_EagerSender___init__ (P := P) (w := w) (base := base) D_EagerSender___init__ U_EagerSender___init__ (raw_meth D_Sender___init__ OSender___init__ (fun _ _ _ _ _ _ us hl => match us, hl with | [_, _, _], _ => rfl)) Tsuper TEagerSender TFlow)
  have RWindowSender := cr_of (He.glo_ok X G (c.fact 68 (f := .glo "WindowSender") rfl)) (He.mkr_ok (c.fact 74 (f := .mkr "WindowSender") rfl)) (f_WindowSender___init__ (P := P) (w := w) (base := base) D_WindowSender___init__ U_WindowSender___init__ (raw_meth D_Sender___init__ OSender___init__ (fun _ _ _ _ _ _ us hl => match us, hl with | [_, _, _], _ => rfl)) Tsuper TWindowSender TFlow)
  have OProbeSender_force := f_ProbeSender_force (P := P) (w := w) (base := base) (cP := He.ga K "ProbeSender") D_ProbeSender_force TProbeSender
  have MProbeSender_force := mt_of (He.cls_ok (c.fact 29 (f := .cls "ProbeSender") rfl)) (He.meth_ok (c.fact 40 (f := .meth "ProbeSender" "force") rfl)) (raw_meth D_ProbeSender_force OProbeSender_force (fun _ _ _ _ _ _ us hl => match us, hl with | [_, _, _, _, _, _], _ => rfl))
  have OFlow_channel_of := f_Flow_channel_of (P := P) (w := w) (base := base) (cF := He.ga K "Flow") D_Flow_channel_of TFlow
  have MFlow_channel_of := mt_of (He.cls_ok (c.fact 1 (f := .cls "Flow") rfl)) (He.meth_ok (c.fact 17 (f := .meth "Flow" "channel_of") rfl)) (raw_meth D_Flow_channel_of OFlow_channel_of (fun _ _ _ _ _ _ us hl => match us, hl with | [_, _, _], _ => rfl))
  have RProbeSender := cr_of (He.glo_ok X G (c.fact 28 (f := .glo "ProbeSender") rfl)) (He.mkr_ok (c.fact 39 (f := .mkr "ProbeSender") rfl)) (f_ProbeSender___init__ (P := P) (w := w) (base := base) D_ProbeSender___init__ U_ProbeSender___init__ (raw_meth D_Sender___init__ OSender___init__ (fun _ _ _ _ _ _ us hl => match us, hl with | [_, _, _], _ => rfl)) Tsuper tup_ZERO TProbeSender TFlow MFlow_channel_of MProbeSender_force)
  have OSender_note_sent_of_Sender := f_Sender_note_sent (P := P) (w := w) (base := base) (cS := He.ga K "Sender") (cL := He.ga K "LevelSender") (cE := He.ga K "EagerSender") (cW := He.ga K "WindowSender") (cP := He.ga K "ProbeSender") D_Sender_note_sent_of_Sender TU_Sender Gplus
  have MSender_note_sent := mt_of (He.cls_ok (c.fact 19 (f := .cls "Sender") rfl)) (He.meth_ok (c.fact 24 (f := .meth "Sender" "note_sent") rfl)) (raw_meth D_Sender_note_sent_of_Sender OSender_note_sent_of_Sender (fun _ _ _ _ _ _ us hl => match us, hl with | [_, _], _ => rfl))
  have OSender_note_sent_of_LevelSender := f_Sender_note_sent (P := P) (w := w) (base := base) (cS := He.ga K "Sender") (cL := He.ga K "LevelSender") (cE := He.ga K "EagerSender") (cW := He.ga K "WindowSender") (cP := He.ga K "ProbeSender") D_Sender_note_sent_of_LevelSender TU_Sender Gplus
  have MLevelSender_note_sent := mt_of (He.cls_ok (c.fact 47 (f := .cls "LevelSender") rfl)) (He.meth_ok (c.fact 53 (f := .meth "LevelSender" "note_sent") rfl)) (raw_meth D_Sender_note_sent_of_LevelSender OSender_note_sent_of_LevelSender (fun _ _ _ _ _ _ us hl => match us, hl with | [_, _], _ => rfl))
  have OSender_note_sent_of_EagerSender := f_Sender_note_sent (P := P) (w := w) (base := base) (cS := He.ga K "Sender") (cL := He.ga K "LevelSender") (cE := He.ga K "EagerSender") (cW := He.ga K "WindowSender") (cP := He.ga K "ProbeSender") D_Sender_note_sent_of_EagerSender TU_Sender Gplus
  have MEagerSender_note_sent := mt_of (He.cls_ok (c.fact 58 (f := .cls "EagerSender") rfl)) (He.meth_ok (c.fact 64 (f := .meth "EagerSender" "note_sent") rfl)) (raw_meth D_Sender_note_sent_of_EagerSender OSender_note_sent_of_EagerSender (fun _ _ _ _ _ _ us hl => match us, hl with | [_, _], _ => rfl))
  have OSender_note_sent_of_WindowSender := f_Sender_note_sent (P := P) (w := w) (base := base) (cS := He.ga K "Sender") (cL := He.ga K "LevelSender") (cE := He.ga K "EagerSender") (cW := He.ga K "WindowSender") (cP := He.ga K "ProbeSender") D_Sender_note_sent_of_WindowSender TU_Sender Gplus
  have MWindowSender_note_sent := mt_of (He.cls_ok (c.fact 69 (f := .cls "WindowSender") rfl)) (He.meth_ok (c.fact 75 (f := .meth "WindowSender" "note_sent") rfl)) (raw_meth D_Sender_note_sent_of_WindowSender OSender_note_sent_of_WindowSender (fun _ _ _ _ _ _ us hl => match us, hl with | [_, _], _ => rfl))
  have OSender_note_sent_of_ProbeSender := f_Sender_note_sent (P := P) (w := w) (base := base) (cS := He.ga K "Sender") (cL := He.ga K "LevelSender") (cE := He.ga K "EagerSender") (cW := He.ga K "WindowSender") (cP := He.ga K "ProbeSender") D_Sender_note_sent_of_ProbeSender TU_Sender Gplus
  have MProbeSender_note_sent := mt_of (He.cls_ok (c.fact 29 (f := .cls "ProbeSender") rfl)) (He.meth_ok (c.fact 41 (f := .meth "ProbeSender" "note_sent") rfl)) (raw_meth D_Sender_note_sent_of_ProbeSender OSender_note_sent_of_ProbeSender (fun _ _ _ _ _ _ us hl => match us, hl with | [_, _], _ => rfl))
  have F_with_total := f_with_total (P := P) (w := w) (base := base) (cS := He.ga K "Sender") (cL := He.ga K "LevelSender") (cE := He.ga K "EagerSender") (cW := He.ga K "WindowSender") (cP := He.ga K "ProbeSender") D_with_total (He.glo_ok X G (c.fact 96 (f := .glo "_with_total") rfl)) TU_Sender
  have OSender_asks_of_Sender := f_Sender_asks (P := P) (w := w) (base := base) D_Sender_asks_of_Sender tup_ZERO
  have MSender_asks := mt_of (He.cls_ok (c.fact 19 (f := .cls "Sender") rfl)) (He.meth_ok (c.fact 25 (f := .meth "Sender" "asks") rfl)) (raw_meth D_Sender_asks_of_Sender OSender_asks_of_Sender (fun _ _ _ _ _ _ us hl => match us, hl with | [_, _], _ => rfl))
  have OSender_asks_of_LevelSender := f_Sender_asks (P := P) (w := w) (base := base) D_Sender_asks_of_LevelSender tup_ZERO
  have MLevelSender_asks := mt_of (He.cls_ok (c.fact 47 (f := .cls "LevelSender") rfl)) (He.meth_ok (c.fact 54 (f := .meth "LevelSender" "asks") rfl)) (raw_meth D_Sender_asks_of_LevelSender OSender_asks_of_LevelSender (fun _ _ _ _ _ _ us hl => match us, hl with | [_, _], _ => rfl))
  have OSender_asks_of_EagerSender := f_Sender_asks (P := P) (w := w) (base := base) D_Sender_asks_of_EagerSender tup_ZERO
  have MEagerSender_asks := mt_of (He.cls_ok (c.fact 58 (f := .cls "EagerSender") rfl)) (He.meth_ok (c.fact 65 (f := .meth "EagerSender" "asks") rfl)) (raw_meth D_Sender_asks_of_EagerSender OSender_asks_of_EagerSender (fun _ _ _ _ _ _ us hl => match us, hl with | [_, _], _ => rfl))
  have OSender_asks_of_WindowSender := f_Sender_asks (P := P) (w := w) (base := base) D_Sender_asks_of_WindowSender tup_ZERO
  have MWindowSender_asks := mt_of (He.cls_ok (c.fact 69 (f := .cls "WindowSender") rfl)) (He.meth_ok (c.fact 76 (f := .meth "WindowSender" "asks") rfl)) (raw_meth D_Sender_asks_of_WindowSender OSender_asks_of_WindowSender (fun _ _ _ _ _ _ us hl => match us, hl with | [_, _], _ => rfl))
  have OSender_offer := f_Sender_offer (P := P) (w := w) (base := base) D_Sender_offer tup_ZERO
  have MSender_offer := mt_of (He.cls_ok (c.fact 19 (f := .cls "Sender") rfl)) (He.meth_ok (c.fact 26 (f := .meth "Sender" "offer") rfl)) (raw_meth D_Sender_offer OSender_offer (fun _ _ _ _ _ _ us hl => match us, hl with | [_, _, _, _], _ => rfl))
  have OEagerSender_offer := f_EagerSender_offer (P := P) (w := w) (base := base) (cF := He.ga K "Flow") (cS := He.ga K "Sender") (cL := He.ga K "LevelSender") (cE := He.ga K "EagerSender") (cW := He.ga K "WindowSender") (cP := He.ga K "ProbeSender") D_EagerSender_offer tup_ZERO TEagerSender
  have MEagerSender_offer := mt_of (He.cls_ok (c.fact 58 (f := .cls "EagerSender") rfl)) (He.meth_ok (c.fact 66 (f := .meth "EagerSender" "offer") rfl)) (raw_meth D_EagerSender_offer OEagerSender_offer (fun _ _ _ _ _ _ us hl => match us, hl with | [_, _, _, _], _ => rfl))
  have OLevelSender_offer := f_LevelSender_offer (P := P) (w := w) (base := base) (cF := He.ga K "Flow") (cS := He.ga K "Sender") (cL := He.ga K "LevelSender") (cE := He.ga K "EagerSender") (cW := He.ga K "WindowSender") (cP := He.ga K "ProbeSender") D_LevelSender_offer tup_ZERO TLevelSender TFlow Fsmallest Fshare
  have MLevelSender_offer := mt_of (He.cls_ok (c.fact 47 (f := .cls "LevelSender") rfl)) (He.meth_ok (c.fact 55 (f := .meth "LevelSender" "offer") rfl)) (raw_meth D_LevelSender_offer OLevelSender_offer (fun _ _ _ _ _ _ us hl => match us, hl with | [_, _, _, _], _ => rfl))
  have OWindowSender_offer := f_WindowSender_offer (P := P) (w := w) (base := base) (cF := He.ga K "Flow") (cS := He.ga K "Sender") (cL := He.ga K "LevelSender") (cE := He.ga K "EagerSender") (cW := He.ga K "WindowSender") (cP := He.ga K "ProbeSender") D_WindowSender_offer tup_ZERO TWindowSender TFlow Gplus Fcompare Fminus Fsmallest
  have MWindowSender_offer := mt_of (He.cls_ok (c.fact 69 (f := .cls "WindowSender") rfl)) (He.meth_ok (c.fact 77 (f := .meth "WindowSender" "offer") rfl)) (raw_meth D_WindowSender_offer OWindowSender_offer (fun _ _ _ _ _ _ us hl => match us, hl with | [_, _, _, _], _ => rfl))
  have OProbeSender_asks := f_ProbeSender_asks (P := P) (w := w) (base := base) (cS := He.ga K "Sender") (cL := He.ga K "LevelSender") (cE := He.ga K "EagerSender") (cW := He.ga K "WindowSender") (cP := He.ga K "ProbeSender") D_ProbeSender_asks tup_ZERO TProbeSender Gplus Ftimes
  have MProbeSender_asks := mt_of (He.cls_ok (c.fact 29 (f := .cls "ProbeSender") rfl)) (He.meth_ok (c.fact 42 (f := .meth "ProbeSender" "asks") rfl)) (raw_meth D_ProbeSender_asks OProbeSender_asks (fun _ _ _ _ _ _ us hl => match us, hl with | [_, _], _ => rfl))
  have OProbeSender__end_try := f_ProbeSender__end_try (P := P) (w := w) (base := base) (cF := He.ga K "Flow") (cS := He.ga K "Sender") (cL := He.ga K "LevelSender") (cE := He.ga K "EagerSender") (cW := He.ga K "WindowSender") (cP := He.ga K "ProbeSender") D_ProbeSender__end_try tup_ZERO TProbeSender TFlow Gplus Ftimes MProbeSender_force
  have MProbeSender__end_try := mt_of (He.cls_ok (c.fact 29 (f := .cls "ProbeSender") rfl)) (He.meth_ok (c.fact 43 (f := .meth "ProbeSender" "_end_try") rfl)) (raw_meth D_ProbeSender__end_try OProbeSender__end_try (fun _ _ _ _ _ _ us hl => match us, hl with | [_, _, _], _ => rfl))
  have OProbeSender_offer := f_ProbeSender_offer (P := P) (w := w) (base := base) (cF := He.ga K "Flow") (cS := He.ga K "Sender") (cL := He.ga K "LevelSender") (cE := He.ga K "EagerSender") (cW := He.ga K "WindowSender") (cP := He.ga K "ProbeSender") D_ProbeSender_offer T0 tup_ZERO TProbeSender TFlow MProbeSender_force MProbeSender__end_try
  have MProbeSender_offer := mt_of (He.cls_ok (c.fact 29 (f := .cls "ProbeSender") rfl)) (He.meth_ok (c.fact 44 (f := .meth "ProbeSender" "offer") rfl)) (raw_meth D_ProbeSender_offer OProbeSender_offer (fun _ _ _ _ _ _ us hl => match us, hl with | [_, _, _, _], _ => rfl))
  have OSender_copy := f_Sender_copy (P := P) (w := w) (base := base) (cF := He.ga K "Flow") (cS := He.ga K "Sender") (cL := He.ga K "LevelSender") (cE := He.ga K "EagerSender") (cW := He.ga K "WindowSender") (cP := He.ga K "ProbeSender") D_Sender_copy TU_Sender RSender F_with_total
  have MSender_copy := mt_of (He.cls_ok (c.fact 19 (f := .cls "Sender") rfl)) (He.meth_ok (c.fact 27 (f := .meth "Sender" "copy") rfl)) (raw_meth D_Sender_copy OSender_copy (fun _ _ _ _ _ _ us hl => match us, hl with | [_], _ => rfl))
  have OLevelSender_copy := f_LevelSender_copy (P := P) (w := w) (base := base) (cF := He.ga K "Flow") (cS := He.ga K "Sender") (cL := He.ga K "LevelSender") (cE := He.ga K "EagerSender") (cW := He.ga K "WindowSender") (cP := He.ga K "ProbeSender") D_LevelSender_copy TLevelSender RLevelSender F_with_total
  have MLevelSender_copy := mt_of (He.cls_ok (c.fact 47 (f := .cls "LevelSender") rfl)) (He.meth_ok (c.fact 56 (f := .meth "LevelSender" "copy") rfl)) (raw_meth D_LevelSender_copy OLevelSender_copy (fun _ _ _ _ _ _ us hl => match us, hl with | [_], _ => rfl))
  have OEagerSender_copy := f_EagerSender_copy (P := P) (w := w) (base := base) (cF := He.ga K "Flow") (cS := He.ga K "Sender") (cL := He.ga K "LevelSender") (cE := He.ga K "EagerSender") (cW := He.ga K "WindowSender") (cP := He.ga K "ProbeSender") D_EagerSender_copy TEagerSender REagerSender F_with_total
  have MEagerSender_copy := mt_of (He.cls_ok (c.fact 58 (f := .cls "EagerSender") rfl)) (He.meth_ok (c.fact 67 (f := .meth "EagerSender" "copy") rfl)) (raw_meth D_EagerSender_copy OEagerSender_copy (fun _ _ _ _ _ _ us hl => match us, hl with | [_], _ => rfl))
  have OWindowSender_copy := f_WindowSender_copy (P := P) (w := w) (base := base) (cF := He.ga K "Flow") (cS := He.ga K "Sender") (cL := He.ga K "LevelSender") (cE := He.ga K "EagerSender") (cW := He.ga K "WindowSender") (cP := He.ga K "ProbeSender") D_WindowSender_copy TWindowSender RWindowSender F_with_total
  have MWindowSender_copy := mt_of (He.cls_ok (c.fact 69 (f := .cls "WindowSender") rfl)) (He.meth_ok (c.fact 78 (f := .meth "WindowSender" "copy") rfl)) (raw_meth D_WindowSender_copy OWindowSender_copy (fun _ _ _ _ _ _ us hl => match us, hl with | [_], _ => rfl))
  have OProbeSender_copy := f_ProbeSender_copy (P := P) (w := w) (base := base) (cF := He.ga K "Flow") (cS := He.ga K "Sender") (cL := He.ga K "LevelSender") (cE := He.ga K "EagerSender") (cW := He.ga K "WindowSender") (cP := He.ga K "ProbeSender") D_ProbeSender_copy TProbeSender RProbeSender F_with_total MProbeSender_force
  have MProbeSender_copy := mt_of (He.cls_ok (c.fact 29 (f := .cls "ProbeSender") rfl)) (He.meth_ok (c.fact 45 (f := .meth "ProbeSender" "copy") rfl)) (raw_meth D_ProbeSender_copy OProbeSender_copy (fun _ _ _ _ _ _ us hl => match us, hl with | [_], _ => rfl))
  have Fsender_of := f_sender_of (P := P) (w := w) (base := base) (cF := He.ga K "Flow") (cS := He.ga K "Sender") (cL := He.ga K "LevelSender") (cE := He.ga K "EagerSender") (cW := He.ga K "WindowSender") (cP := He.ga K "ProbeSender") D_sender_of (He.glo_ok X G (c.fact 95 (f := .glo "sender_of") rfl)) TFlow RLevelSender REagerSender RWindowSender RProbeSender
  have F_law_new := f_law_new (P := P) (w := w) (base := base) (cF := He.ga K "Flow") (cS := He.ga K "Sender") (cL := He.ga K "LevelSender") (cE := He.ga K "EagerSender") (cW := He.ga K "WindowSender") (cP := He.ga K "ProbeSender") D_law_new (He.glo_ok X G (c.fact 125 (f := .glo "_law_new") rfl)) F_law_draw Fsender_of RLevelSender REagerSender RWindowSender RProbeSender
  have F_law_class := f_law_class (P := P) (w := w) (base := base) (cS := He.ga K "Sender") (cL := He.ga K "LevelSender") (cE := He.ga K "EagerSender") (cW := He.ga K "WindowSender") (cP := He.ga K "ProbeSender") D_law_class (He.glo_ok X G (c.fact 126 (f := .glo "_law_class") rfl)) T0 kit TU_Sender TLevelSender TEagerSender TWindowSender TProbeSender
  have F_law_half := f_law_half (P := P) (w := w) (base := base) D_law_half (He.glo_ok X G (c.fact 128 (f := .glo "_law_half") rfl)) F_law_sum F_law_scaled
  have F_law_searched := f_law_searched (P := P) (w := w) (base := base) D_law_searched (He.glo_ok X G (c.fact 129 (f := .glo "_law_searched") rfl)) T0 F_law_half
  have F_law_share := f_law_share (P := P) (w := w) (base := base) D_law_share (He.glo_ok X G (c.fact 124 (f := .glo "_law_share") rfl)) F_law_min F_law_max F_law_scaled
  have F_law_due := f_law_due (P := P) (w := w) (base := base) D_law_due (He.glo_ok X G (c.fact 130 (f := .glo "_law_due") rfl)) T0 F_law_share F_law_min F_law_sum F_law_rest
  have F_law_hears := f_law_hears (P := P) (w := w) (base := base) D_law_hears (He.glo_ok X G (c.fact 127 (f := .glo "_law_hears") rfl)) T0 F_law_draw F_law_of F_law_mixed G_law_some F_law_part F_law_min
  have U_MSender_offer : MtU P w K mg base 5 (S5 (He.ga K "Sender") (He.ga K "LevelSender") (He.ga K "EagerSender") (He.ga K "WindowSender") (He.ga K "ProbeSender")) "offer" (spOffU (He.ga K "Flow") (He.ga K "Sender") (He.ga K "LevelSender") (He.ga K "EagerSender") (He.ga K "WindowSender") (He.ga K "ProbeSender") K) := mtU5 MSender_offer MLevelSender_offer MEagerSender_offer MWindowSender_offer MProbeSender_offer
  have U_MSender_asks : MtU P w K mg base 4 (S5 (He.ga K "Sender") (He.ga K "LevelSender") (He.ga K "EagerSender") (He.ga K "WindowSender") (He.ga K "ProbeSender")) "asks" (spAskU (He.ga K "Sender") (He.ga K "LevelSender") (He.ga K "EagerSender") (He.ga K "WindowSender") (He.ga K "ProbeSender") K) := mtU5 MSender_asks MLevelSender_asks MEagerSender_asks MWindowSender_asks MProbeSender_asks
  have U_MSender_note_sent : MtU P w K mg base 3 (S5 (He.ga K "Sender") (He.ga K "LevelSender") (He.ga K "EagerSender") (He.ga K "WindowSender") (He.ga K "ProbeSender")) "note_sent" (fun _ => spNoteU (S5 (He.ga K "Sender") (He.ga K "LevelSender") (He.ga K "EagerSender") (He.ga K "WindowSender") (He.ga K "ProbeSender")) K) := mtU5 MSender_note_sent MLevelSender_note_sent MEagerSender_note_sent MWindowSender_note_sent MProbeSender_note_sent
  have F_law_step := f_law_step (P := P) (w := w) (base := base) (cF := He.ga K "Flow") (cS := He.ga K "Sender") (cL := He.ga K "LevelSender") (cE := He.ga K "EagerSender") (cW := He.ga K "WindowSender") (cP := He.ga K "ProbeSender") D_law_step (He.glo_ok X G (c.fact 131 (f := .glo "_law_step") rfl)) T0 TU_Sender U_MSender_offer U_MSender_asks U_MSender_note_sent F_law_draw F_law_wish F_law_hears F_law_searched F_law_due F_law_same F_law_half F_law_part F_law_sum
  have U_MSender_copy : MtU P w K mg base 5 (S5 (He.ga K "Sender") (He.ga K "LevelSender") (He.ga K "EagerSender") (He.ga K "WindowSender") (He.ga K "ProbeSender")) "copy" (spCopy (He.ga K "Flow") (He.ga K "Sender") (He.ga K "LevelSender") (He.ga K "EagerSender") (He.ga K "WindowSender") (He.ga K "ProbeSender") K) := mtU5 MSender_copy MLevelSender_copy MEagerSender_copy MWindowSender_copy MProbeSender_copy
  exact f_law (P := P) (w := w) (base := base) (cF := He.ga K "Flow") (cS := He.ga K "Sender") (cL := He.ga K "LevelSender") (cE := He.ga K "EagerSender") (cW := He.ga K "WindowSender") (cP := He.ga K "ProbeSender") D_law (He.glo_ok X G (c.fact 132 (f := .glo "law") rfl)) T0 Tdict TU_Sender RSender U_MSender_offer U_MSender_asks U_MSender_note_sent U_MSender_copy EFlow F_law_bag F_law_draw F_law_of G_law_some F_law_amount F_law_sum F_law_same F_law_name F_law_flow F_law_made_flow F_law_new F_law_class F_law_step
end YkHead
open PySem PySem.W PySem.Calls PyProof.Rows in
theorem PySem.Challenge.cw_bandheld_k35_senders_told_holds : PySem.Challenge.rw_bandheld_k35_senders_told.Holds := by
  w_on; o_law
  refine HandSHeadRun.head_imp (r := OpenLaw.row PySem.Challenge.rw_bandheld_k35_senders_told) (q := view (OpenLaw.row PySem.Challenge.rw_bandheld_k35_senders_told).prog [0, 79]) (H := YkHead.hk) (ob := YkHead.ob) (M := 8000) (loose := YkHead.loose) (d := HandSHeadRun.topDef (OpenLaw.row PySem.Challenge.rw_bandheld_k35_senders_told).prog 79) (kwd := []) YkHead.ob_eq YkHead.run
    (by kernel_rfl) (by kernel_rfl) (by kernel_rfl) (by rfl) (by first | assumption | decide +kernel) (by decide +kernel) ⟨rfl, rfl, rfl, rfl, rfl, by decide +kernel⟩ ?hw ?hc
  case hw => w_witness2
  case hc =>
    refine L2.walk_ofE (l := PySem.Challenge.rw_bandheld_k35_senders_told) (n := 63) (k := 9) (x := "_law_script") (CX := L2.CX0) rfl (by decide) (by kernel_rfl) ⟨rfl, by decide, by decide⟩ ?F (fun _ _ _ _ z => z)
    intro w mg fa h Y G hmg0
    obtain ⟨K, KX, c⟩ := Y
    have hmg : mg ("law" : PySem.Str) = some (.ref fa) := by
      have e : (HandSHeadRun.topDef (OpenLaw.row PySem.Challenge.rw_bandheld_k35_senders_told).prog 79).name = ("law" : PySem.Str) := by kernel_rfl
      rw [← e]
      exact hmg0
    obtain ⟨fd, hb, hF⟩ := YkHead.facts (P := (PySem.Challenge.rw_bandheld_k35_senders_told).prog) (w := w) KX G hmg c rfl (by kernel_rfl)
    exact ⟨K, fd, Yk.spLaw35 K, KX, hb, fun H a ns hl _ hS => ⟨a, ns, rfl, hS, hl, fun _ => rfl⟩, hF⟩

