import PyProof.Rows.All
import Wide.All
import OpenK.AllK
import Wide.FinOn
import HandS.ForMost
import HandS.Defaults
import HandS.Star
import HandS.Gcd
import HandS.Wide
import HandS.HeadHook4
import HandS.NoneIn
import HandS.IsInst
import HandS.Zip
import HandS.Text
import HandS.StrMore
import HandS.FStr
import HandS.Style
import HandS.WideBits
import HandS.HeadEnd
import HandS.Head3
import PySem.Challenge.RW_bandheld_k01_shares_and_cuts
set_option Elab.async false
set_option linter.all false
set_option maxRecDepth 100000
set_option maxHeartbeats 1000000
/-! The layer over the hand layer: what is kept from heap to heap, amounts as rational numbers, readings step by step. -/
namespace Yk
open PySem PySem.Spec PyProof.Rows L2

/-! ### what is kept: all that is tracked, but what stands at S -/
def Ext (S : List Addr) (H H' : Hp) : Prop := ∀ a o, H a = some o → a ∉ S → H' a = some o
theorem Ext.refl {S : List Addr} {H : Hp} : Ext S H H := fun _ _ h _ => h
theorem Ext.trans {S : List Addr} {H H1 H2 : Hp} (a : Ext S H H1) (b : Ext S H1 H2) : Ext S H H2 := fun x o h n => b x o (a x o h n) n
theorem Ext.mono {S T : List Addr} {H H1 : Hp} (a : Ext S H H1) (h : ∀ x ∈ S, x ∈ T) : Ext T H H1 := fun x o e n => a x o e fun z => n (h x z)
theorem Ext.of0 {T : List Addr} {H H1 : Hp} (a : Ext [] H H1) : Ext T H H1 := a.mono fun _ z => nomatch z
theorem Ext.new {S : List Addr} {H H1 : Hp} {p : Addr} {o : HO} (e : Ext S H H1) (h : H1 p = none) : Ext S H (upd H1 p o) := fun a u ha n => by
  have h1 := e a u ha n
  rw [upd_ne (ne_of_none h1 h)]
  exact h1
theorem Ext.at_ {S : List Addr} {H H1 : Hp} {p : Addr} {o : HO} (e : Ext S H H1) (h : p ∈ S) : Ext S H (upd H1 p o) := fun a u ha n => by
  have h1 : a ≠ p := fun z => n (by rw [z]; exact h)
  rw [upd_ne h1]
  exact e a u ha n
/-- what is new to H may change -/
theorem Ext.own {S : List Addr} {H H1 : Hp} {p : Addr} {o : HO} (e : Ext S H H1) (h : H p = none) : Ext S H (upd H1 p o) := fun a u ha n => by
  rw [upd_ne (ne_of_none ha h)]
  exact e a u ha n
theorem Ext.free {H H1 : Hp} (e : Ext [] H H1) {p : Addr} (h : H1 p = none) : H p = none := by
  cases h1 : H p with
  | none => rfl
  | some o =>
    rw [e p o h1 (fun z => nomatch z)] at h
    cases h
theorem Ext.freeS {S : List Addr} {H H1 : Hp} (e : Ext S H H1) {p : Addr} (h : H1 p = none) (hs : ∀ a ∈ S, H1 a ≠ none) : H p = none := by
  cases h1 : H p with
  | none => rfl
  | some o =>
    rw [e p o h1 (fun z => hs p z h)] at h
    cases h

/-- the tuple at a, the list at a, carried on -/
theorem tupX {S : List Addr} {K : PySem.W.Frag} {H H1 : Hp} {a : Addr} {xs : List V} (e : Ext S H H1) (h : SqT K H a xs) (hs : ∀ b ∈ S, ∃ l, H b = some (.lst l)) : SqT K H1 a xs := by
  rcases h with (h | ⟨o, h⟩) | h
  · exact .inl (.inl (e a _ h fun z => by obtain ⟨l, q⟩ := hs a z; rw [h] at q; cases q))
  · exact .inl (.inr ⟨o, e a _ h fun z => by obtain ⟨l, q⟩ := hs a z; rw [h] at q; cases q⟩)
  · exact .inr h
theorem tup0 {K : PySem.W.Frag} {H H1 : Hp} {a : Addr} {xs : List V} (e : Ext [] H H1) (h : SqT K H a xs) : SqT K H1 a xs := tupX e h fun _ z => nomatch z
theorem tupN {K : PySem.W.Frag} {H : Hp} {a p : Addr} {o : HO} {xs : List V} (h : SqT K H a xs) (hp : H p = none) : SqT K (upd H p o) a xs := tup0 (Ext.refl.new hp) h
theorem tupW {K : PySem.W.Frag} {H : Hp} {a p : Addr} {l l' : List V} {xs : List V} (h : SqT K H a xs) (hp : H p = some (.lst l)) : SqT K (upd H p (.lst l')) a xs :=
  tupX (S := [p]) (Ext.refl.at_ List.mem_cons_self) h fun b hb => by rw [List.mem_singleton.mp hb]; exact ⟨l, hp⟩
theorem tupS {K : PySem.W.Frag} {H : Hp} {p : Addr} {xs : List V} : SqT K (upd H p (.tup xs)) p xs := .inl (.inl upd_same)
theorem lstX {S : List Addr} {K : PySem.W.Frag} {H H1 : Hp} {a : Addr} {xs : List V} (e : Ext S H H1) (h : SqL K H a xs) (hs : a ∉ S) : SqL K H1 a xs := by
  rcases h with (h | ⟨o, h⟩) | h
  · exact .inl (.inl (e a _ h hs))
  · exact .inl (.inr ⟨o, e a _ h hs⟩)
  · exact .inr h
theorem lst0 {K : PySem.W.Frag} {H H1 : Hp} {a : Addr} {xs : List V} (e : Ext [] H H1) (h : SqL K H a xs) : SqL K H1 a xs := lstX e h fun z => nomatch z
theorem lstN {K : PySem.W.Frag} {H : Hp} {a p : Addr} {o : HO} {xs : List V} (h : SqL K H a xs) (hp : H p = none) : SqL K (upd H p o) a xs := lst0 (Ext.refl.new hp) h
theorem lstS {K : PySem.W.Frag} {H : Hp} {p : Addr} {xs : List V} : SqL K (upd H p (.lst xs)) p xs := .inl (.inl upd_same)

/-! ### a def by its name -/
section
variable (P : Program) (w : World) (K : PySem.W.Frag) (mg : Str → Option Value) (base : Heap)
structure Fn (k : Nat) (x : Str) (sp : Sp) : Prop where
  run : ∃ f, mg x = some (.ref f) ∧ PySem.W.keepIn K (.ref f) = true ∧ FnR P w K mg base CX0 k f sp
end
section
variable {X : Cx} {k : Nat} {sp : Sp} {x : Str} {p pos : Pos} {e : Expr} {es : List Expr} {t : TA}
def tR (sp : Sp) (t : TA) : TE := fun σ H Q => t σ H fun vs H1 => sp vs H1 Q E0
theorem pe_fn (F : Fn X.prog X.w X.K X.mg X.base k x sp) (hr : Room k X.A) (ha : PA X (e :: es) t) (hg : Gl X x := by rfl) (hdb : (x == ("__debug__" : Str)) = false := by decide)
    (hx : Passes CX0 X E0 := by exact pass0)
    (he : starEach (e :: es) X.env = (false, eval e X.env) :: starEach es X.env := by rfl) (hpl : (backTo pos (starEach es X.env)).any (·.1) = false := by rfl) :
    PE X (.Call (.Name x p) (e :: es) [] pos) (tR sp t) := by
  obtain ⟨f, hm, hk, F⟩ := F.run
  refine ⟨fun pins s σ H Q I h => ?_⟩
  refine wpAny_Call_Name_kw (ld_glob I hg hm ?_ hdb)
  refine PySem.W.callWith_K (h₀ := X.base) I.ok.mod.kin hk (thn (ha.run pos pins s σ H _ I h) fun us s1 ⟨vs, H1, I1, r, q⟩ => ⟨I1.kIn, ?_⟩) he hpl
  exact wpAny_call (run_fnR F hr hx I1 r q)
theorem Fn.mono {P : Program} {w : World} {K : PySem.W.Frag} {mg : Str → Option Value} {base : Heap} {j k : Nat} {x : Str} {sp : Sp} (F : Fn P w K mg base j x sp) (h : j ≤ k) : Fn P w K mg base k x sp := by
  obtain ⟨f, hm, hk, F⟩ := F.run
  exact ⟨f, hm, hk, F.mono h⟩
end
/-- how a def of the text keeps a promise -/
theorem fn_def {P : Program} {w : World} {K : PySem.W.Frag} {mg : Str → Option Value} {base : Heap} {x : Str} {params : Arguments} {body : List Stmt} {scope : Scope} {f : Addr} {fd : FuncData} {N ps : List Str} {k : Nat} {sp : Sp}
    (F : FunD K x x params body scope [] [] f fd) (hm : mg x = some (.ref f)) (S : FnScope N ps scope) (len : ∀ vs H Q E, sp vs H Q E → vs.length = ps.length)
    (hb : ∀ (kV doc pm : Value) (an : Option Addr) (cdv ct : Value) (us : List Value), us.length = ps.length → bindArgs (PySem.W.fnOf x x params body scope .none kV doc pm an cdv ct) ⟨us, []⟩ = pure (ps.zip us))
    (hbody : ∀ (cdv : Value) (A : Around) (outer : List Env) (s : Shared) (H : Hp) (vs : List V) (Q : VK) (E : XK), Room k (A.deeper (envOfC x scope s.heap.objs.size f cdv)) → sp vs H Q E →
      ∃ t, PSs (cxOf CX0 P w K mg base N x scope f cdv A outer s H E).nox body t ∧ t ⟨fun _ H' => Q .non H', Q, fun _ _ => False, fun _ _ => False⟩ (start N vs) H) : Fn P w K mg base (k + 1) x sp := by
  have G : FnOk P w K mg base CX0 (k + 1) f fd ps sp := F.ok S len fun cdv A outer s H vs Q E hr h => by
    obtain ⟨t, h1, h2⟩ := hbody cdv A outer s H vs Q E hr h
    exact ⟨t, h1.nox, h2⟩
  have b := F.bindsN hb
  have R := G.raw b .nil
  refine ⟨f, hm, F.kp, R.imp fun vs H Q E h => ?_⟩
  rw [List.append_nil]
  exact h

/-! ### len, list by names -/
def rLn (K : PySem.W.Frag) : List V → Hp → VK → Prop := fun xs H Q => ∃ p ys, xs = [.ref p] ∧ (SqL K H p ys ∨ SqT K H p ys) ∧ Q (.int ys.length) H
def rLs (K : PySem.W.Frag) : List V → Hp → VK → Prop := fun xs H Q => ∃ p ys, xs = [.ref p] ∧ (SqL K H p ys ∨ SqT K H p ys) ∧ ∀ l, H l = none → Q (.ref l) (upd H l (.lst ys))
section
variable {X : Cx}
theorem cr_len : CallR X (.builtin "len") (rLn X.K) := call_len_seq
theorem cr_list : CallR X (.type "list") (rLs X.K) := call_list_of
end
/-! ### readings, one step each -/
section
variable {nx : L2.St → Hp → Prop} {rt : VK} {bk ct : L2.St → Hp → Prop} {σ : L2.St} {H : Hp} {K : PySem.W.Frag} {Q : VK} {t u : TS} {te ta tb : TE} {g : TG} {c : TT} {v x y : V}
theorem r_seq (h : t ⟨u ⟨nx, rt, bk, ct⟩, rt, bk, ct⟩ σ H) : tSeq t u ⟨nx, rt, bk, ct⟩ σ H := h
theorem r_next (h : nx σ H) : tNext ⟨nx, rt, bk, ct⟩ σ H := h
theorem r_asg (h : te σ H fun x H1 => g x σ H1 nx) : tAsg te g ⟨nx, rt, bk, ct⟩ σ H := h
theorem r_ret (h : te σ H rt) : tRet te ⟨nx, rt, bk, ct⟩ σ H := h
theorem r_drop (h : te σ H fun _ H1 => nx σ H1) : tDrop te ⟨nx, rt, bk, ct⟩ σ H := h
theorem r_ifS (h : c σ H fun b H1 => if b = true then t ⟨nx, rt, bk, ct⟩ σ H1 else u ⟨nx, rt, bk, ct⟩ σ H1) : tIfS c t u ⟨nx, rt, bk, ct⟩ σ H := h
theorem r_par {i j : Nat} {ta : TA} (h : ta σ H fun vs H1 => ∃ v w, vs = [v, w] ∧ nx ((σ.set i (some v)).set j (some w)) H1) : tPar i j ta ⟨nx, rt, bk, ct⟩ σ H := h
theorem r_name {i : Nat} {R : L2.St → Hp → Prop} (h : R (σ.set i (some v)) H) : gName i v σ H R := h
theorem r_gTup {n : Nat} {ts : TGs} {a : Addr} {xs : List V} {R : L2.St → Hp → Prop} (h1 : SqT K H a xs) (h2 : xs.length = n) (h : ts xs σ H R) : gTup K n ts (.ref a) σ H R := ⟨a, xs, rfl, h1, h2, h⟩
theorem r_gCons {ts : TGs} {vs : List V} {R : L2.St → Hp → Prop} (h : g v σ H fun σ' H' => ts vs σ' H' R) : gCons g ts (v :: vs) σ H R := ⟨v, vs, rfl, h⟩
theorem r_gNil {R : L2.St → Hp → Prop} (h : R σ H) : gNil [] σ H R := ⟨rfl, h⟩
theorem r_gSub {to ti : TE} {ts : TSet} {R : L2.St → Hp → Prop} (h : to σ H fun o H1 => ti σ H1 fun i H2 => ts o i v H2 fun H3 => R σ H3) : gSub to ti ts v σ H R := h
theorem r_var {i : Nat} (h1 : σ[i]? = some (some v)) (h : Q v H) : tVar i σ H Q := ⟨v, h1, h⟩
theorem r_c (h : Q v H) : tC v σ H Q := h
theorem r_op {r : R2} (h : ta σ H fun x H1 => tb σ H1 fun y H2 => r x y H2 Q) : tOp r ta tb σ H Q := h
theorem r_un {r : V → Hp → VK → Prop} (h : ta σ H fun x H1 => r x H1 Q) : tUn r ta σ H Q := h
theorem r_I0 {f : Int → Int → V} {i j : Int} (h : Q (f i j) H) : rI0 f (.int i) (.int j) H Q := ⟨i, j, rfl, rfl, h⟩
theorem r_I {C : Int → Int → Prop} {f : Int → Int → V} {i j : Int} (hc : C i j) (h : Q (f i j) H) : rI C f (.int i) (.int j) H Q := ⟨i, j, rfl, rfl, hc, h⟩
theorem r_U {f : Int → V} {i : Int} (h : Q (f i) H) : rU f (.int i) H Q := ⟨i, rfl, h⟩
theorem r_ixT {p : Addr} {xs : List V} {i : Int} (h1 : SqT K H p xs) (h2 : atI xs i = some v) (h : Q v H) : rIxT K (.ref p) (.int i) H Q := ⟨p, xs, i, v, rfl, rfl, h1, h2, h⟩
theorem r_ixL {p : Addr} {xs : List V} {i : Int} (h1 : SqL K H p xs) (h2 : atI xs i = some v) (h : Q v H) : rIxL K (.ref p) (.int i) H Q := ⟨p, xs, i, v, rfl, rfl, h1, h2, h⟩
theorem r_cons {t : TA} {R : List V → Hp → Prop} (h : ta σ H fun x H1 => t σ H1 fun xs H2 => R (x :: xs) H2) : tCons ta t σ H R := h
theorem r_nil {R : List V → Hp → Prop} (h : R [] H) : tNil σ H R := h
theorem r_tup {t : TA} (h : t σ H fun xs H1 => xs.length ≤ sizeLine ∧ ∀ p, H1 p = none → Q (.ref p) (upd H1 p (.tup xs))) : tTup t σ H Q := h
theorem r_lst {t : TA} (h : t σ H fun xs H1 => xs.length ≤ sizeLine ∧ ∀ p, H1 p = none → Q (.ref p) (upd H1 p (.lst xs))) : tLst t σ H Q := h
theorem r_CB {r : List V → Hp → VK → Prop} {t : TA} (h : t σ H fun vs H1 => r vs H1 Q) : tCB r t σ H Q := h
theorem r_R {sp : Sp} {t : TA} (h : t σ H fun vs H1 => sp vs H1 Q E0) : tR sp t σ H Q := h
theorem r_gcd {a b : Int} (h : Q (.int ((Nat.gcd a.natAbs b.natAbs : Nat) : Int)) H) : rGcd [.int a, .int b] H Q := ⟨a, b, rfl, h⟩
theorem r_test {R : Bool → Hp → Prop} (h : te σ H fun x H' => ∃ k, x = .bl k ∧ R k H') : tTest te σ H R := h
theorem r_B {R : Bool → Hp → Prop} (h : te σ H fun x H' => ∃ k, x = .bl k ∧ R k H') : tB te σ H R := h
theorem r_bl {b : Bool} {R : Bool → Prop} (h : R b) : ∃ k, V.bl b = .bl k ∧ R k := ⟨b, rfl, h⟩
theorem r_if (h : c σ H fun b H1 => if b = true then ta σ H1 Q else tb σ H1 Q) : tIf c ta tb σ H Q := h
theorem r_and {d : TT} {R : Bool → Hp → Prop} (h : c σ H fun b H1 => if b = true then d σ H1 R else R false H1) : tAnd c d σ H R := h
theorem r_or {d : TT} {R : Bool → Hp → Prop} (h : c σ H fun b H1 => if b = true then R true H1 else d σ H1 R) : tOr c d σ H R := h
theorem r_not {R : Bool → Hp → Prop} (h : c σ H fun b H1 => R (!b) H1) : tNot c σ H R := h
theorem r_eq (hs : scal x y = true) (h : Q (.bl (decide (x = y))) H) : rEq x y H Q := ⟨hs, h⟩
theorem r_ne (hs : scal x y = true) (h : Q (.bl (!decide (x = y))) H) : rNe x y H Q := ⟨hs, h⟩
theorem r_dec {p : Prop} [Decidable p] {A B : Prop} (h1 : p → A) (h2 : ¬ p → B) : if decide p = true then A else B := by
  by_cases hp : p
  · rw [decide_eq_true hp, if_pos rfl]; exact h1 hp
  · rw [decide_eq_false hp, if_neg (by decide)]; exact h2 hp
theorem r_forT {i : Nat} {a : Addr} {xs : List V} (h1 : σ[i]? = some (some (.ref a))) (h2 : SqT K H a xs) (Pv : Nat → L2.St → Hp → Prop) (h0 : Pv 0 σ H) (hl : ∀ i σ H, i ≤ xs.length → Pv i σ H → SqT K H a xs)
    (hs : ∀ i x σ H, xs[i]? = some x → Pv i σ H → g x σ H fun σ2 H2 => t ⟨Pv (i + 1), rt, nx, Pv (i + 1)⟩ σ2 H2) (hd : ∀ σ H, Pv xs.length σ H → nx σ H) : tFor (iTup K (tVar i)) g t ⟨nx, rt, bk, ct⟩ σ H :=
  ⟨_, h1, a, rfl, ⟨xs, h2⟩, for_tup Pv h0 hl hs hd⟩
theorem r_forL {i : Nat} {a : Addr} {xs : List V} (h1 : σ[i]? = some (some (.ref a))) (h2 : SqL K H a xs) (Pv : Nat → L2.St → Hp → Prop) (h0 : Pv 0 σ H) (hl : ∀ i σ H, i ≤ xs.length → Pv i σ H → SqL K H a xs)
    (hs : ∀ i x σ H, xs[i]? = some x → Pv i σ H → g x σ H fun σ2 H2 => t ⟨Pv (i + 1), rt, nx, Pv (i + 1)⟩ σ2 H2) (hd : ∀ σ H, Pv xs.length σ H → nx σ H) : tFor (iList K (tVar i)) g t ⟨nx, rt, bk, ct⟩ σ H :=
  ⟨_, h1, a, rfl, ⟨xs, h2⟩, for_list Pv h0 hl hs hd⟩
theorem r_for {wi : TI} (h : wi σ H fun J H1 => ∃ W : Nat → Nat → L2.St → Hp → Prop, (∃ m, W 0 m σ H1) ∧ ∀ i m σ H, W i m σ H →
  (J.stop i H ∧ nx σ H) ∨ (J.go i H ∧ ∃ N : L2.St → Hp → Prop, (∀ σ' H', N σ' H' → ∃ m', m' < m ∧ W (i + 1) m' σ' H') ∧ ∀ x H', J.yld i H x H' → g x σ H' fun σ2 H2 => t ⟨N, rt, nx, N⟩ σ2 H2)) : tFor wi g t ⟨nx, rt, bk, ct⟩ σ H := h
theorem r_iList {tl : TE} {R : It → Hp → Prop} (h : tl σ H fun x H1 => ∃ a, x = .ref a ∧ (∃ xs, SqL K H1 a xs) ∧ R (Itl K a) H1) : iList K tl σ H R := h
theorem r_iTup {tl : TE} {R : It → Hp → Prop} (h : tl σ H fun x H1 => ∃ a, x = .ref a ∧ (∃ xs, SqT K H1 a xs) ∧ R (Itt K a) H1) : iTup K tl σ H R := h
theorem r_iRng1 {ta : TA} {R : It → Hp → Prop} (h : ta σ H fun vs H1 => ∃ j : Int, vs = [.int j] ∧ -(2 ^ 62) ≤ j ∧ j < 2 ^ 62 ∧ R (Itr 0 j.toNat) H1) : iRng1 ta σ H R := h
theorem r_loopL {a : Addr} {xs : List V} (Pv : Nat → L2.St → Hp → Prop) (h0 : Pv 0 σ H) (hl : ∀ i σ H, i ≤ xs.length → Pv i σ H → SqL K H a xs)
    (hs : ∀ i x σ H, xs[i]? = some x → Pv i σ H → g x σ H fun σ2 H2 => t ⟨Pv (i + 1), rt, nx, Pv (i + 1)⟩ σ2 H2) (hd : ∀ σ H, Pv xs.length σ H → nx σ H) :
    ∃ W : Nat → Nat → L2.St → Hp → Prop, (∃ m, W 0 m σ H) ∧ ∀ i m σ H, W i m σ H →
      ((Itl K a).stop i H ∧ nx σ H) ∨ ((Itl K a).go i H ∧ ∃ N : L2.St → Hp → Prop, (∀ σ' H', N σ' H' → ∃ m', m' < m ∧ W (i + 1) m' σ' H') ∧ ∀ x H', (Itl K a).yld i H x H' → g x σ H' fun σ2 H2 => t ⟨N, rt, nx, N⟩ σ2 H2) :=
  for_list (D := ⟨nx, rt, nx, nx⟩) Pv h0 hl hs hd
theorem r_loopT {a : Addr} {xs : List V} (Pv : Nat → L2.St → Hp → Prop) (h0 : Pv 0 σ H) (hl : ∀ i σ H, i ≤ xs.length → Pv i σ H → SqT K H a xs)
    (hs : ∀ i x σ H, xs[i]? = some x → Pv i σ H → g x σ H fun σ2 H2 => t ⟨Pv (i + 1), rt, nx, Pv (i + 1)⟩ σ2 H2) (hd : ∀ σ H, Pv xs.length σ H → nx σ H) :
    ∃ W : Nat → Nat → L2.St → Hp → Prop, (∃ m, W 0 m σ H) ∧ ∀ i m σ H, W i m σ H →
      ((Itt K a).stop i H ∧ nx σ H) ∨ ((Itt K a).go i H ∧ ∃ N : L2.St → Hp → Prop, (∀ σ' H', N σ' H' → ∃ m', m' < m ∧ W (i + 1) m' σ' H') ∧ ∀ x H', (Itt K a).yld i H x H' → g x σ H' fun σ2 H2 => t ⟨N, rt, nx, N⟩ σ2 H2) :=
  for_tup (D := ⟨nx, rt, nx, nx⟩) Pv h0 hl hs hd
theorem r_loopR {lo : Int} {n : Nat} (Pv : Nat → L2.St → Hp → Prop) (h0 : Pv 0 σ H)
    (hs : ∀ i σ H, i < n → Pv i σ H → g (.int (lo + i)) σ H fun σ2 H2 => t ⟨Pv (i + 1), rt, nx, Pv (i + 1)⟩ σ2 H2) (hd : ∀ σ H, Pv n σ H → nx σ H) :
    ∃ W : Nat → Nat → L2.St → Hp → Prop, (∃ m, W 0 m σ H) ∧ ∀ i m σ H, W i m σ H →
      ((Itr lo n).stop i H ∧ nx σ H) ∨ ((Itr lo n).go i H ∧ ∃ N : L2.St → Hp → Prop, (∀ σ' H', N σ' H' → ∃ m', m' < m ∧ W (i + 1) m' σ' H') ∧ ∀ x H', (Itr lo n).yld i H x H' → g x σ H' fun σ2 H2 => t ⟨N, rt, nx, N⟩ σ2 H2) :=
  for_range (D := ⟨nx, rt, nx, nx⟩) Pv h0 hs hd
theorem r_gUnl {n : Nat} {ts : TGs} {a : Addr} {xs : List V} {R : L2.St → Hp → Prop} (h1 : SqL K H a xs) (h2 : xs.length = n) (h : ts xs σ H R) : gUnl K n ts (.ref a) σ H R := ⟨a, xs, rfl, h1, h2, h⟩
theorem r_BM {T : String} {r : V → List V → Hp → VK → Prop} {to : TE} {ta : TA} (h : to σ H fun x H1 => tyV K T x H1 ∧ ta σ H1 fun xs H2 => r x xs H2 Q) : tBM K T r to ta σ H Q := h
theorem r_BM0 {T : String} {r : V → List V → Hp → VK → Prop} {to : TE} (h : to σ H fun x H1 => tyV K T x H1 ∧ r x [] H1 Q) : tBM0 K T r to σ H Q := h
theorem r_lc {wi : TI} {g : TG} {tt : TT} {te : TE} {vs : List Nat} (h : wi σ H fun J H1 => ∀ D, H1 D = none → ∃ W : Nat → Nat → Hp → Prop, (∃ m, W 0 m (upd H1 D (.lst []))) ∧ ∀ i m H, W i m H →
  (J.stop i H ∧ Q (.ref D) H) ∨ (J.go i H ∧ ∃ Nx : Hp → Prop, (∀ H', Nx H' → ∃ m', m' < m ∧ W (i + 1) m' H') ∧ ∀ x H', J.yld i H x H' → g x (wipe σ vs) H' fun σ2 H2 => wipe σ2 vs = wipe σ vs ∧ tt σ2 H2 fun b H3 =>
    if b = true then te σ2 H3 fun y H4 => ∃ acc, H4 D = some (.lst acc) ∧ acc.length < sizeLine ∧ Nx (upd H4 D (.lst (acc ++ [y]))) else Nx H3)) : tLc wi g tt te vs σ H Q := h
theorem r_yes {R : Bool → Hp → Prop} (h : R true H) : tYes σ H R := h
theorem r_tt {A B : Prop} (h : A) : if true = true then A else B := by rw [if_pos rfl]; exact h
theorem r_popAt {l : Addr} {xs : List V} {i : Int} {k : Nat} {y : V} (h1 : H l = some (.lst xs)) (h2 : i = (k : Int)) (h3 : xs[k]? = some y) (h4 : xs.length ≤ 4000) (h : Q y (upd H l (.lst (xs.eraseIdx k)))) : rPopAt (.ref l) [.int i] H Q := by
  have hk : k < xs.length := (List.getElem?_eq_some_iff.mp h3).1
  have e : ixN xs.length i = some k := by
    unfold ixN
    rw [if_pos (by omega), if_pos (by omega), h2, Int.toNat_natCast]
  exact ⟨l, xs, i, k, y, rfl, rfl, h1, by omega, by omega, (ixN_seq e).1, h3, h⟩
theorem r_lcR {lo : Int} {n : Nat} {g : TG} {tt : TT} {te : TE} {vs : List Nat} {D : Addr} {Qd : Hp → Prop} (Pv : Nat → Hp → Prop) (h0 : Pv 0 (upd H D (.lst [])))
    (hs : ∀ i H, i < n → Pv i H → g (.int (lo + i)) (wipe σ vs) H fun σ2 H2 => wipe σ2 vs = wipe σ vs ∧ tt σ2 H2 fun b H3 =>
      if b = true then te σ2 H3 fun y H4 => ∃ acc, H4 D = some (.lst acc) ∧ acc.length < sizeLine ∧ Pv (i + 1) (upd H4 D (.lst (acc ++ [y]))) else Pv (i + 1) H3) (hd : ∀ H, Pv n H → Qd H) :
    ∃ W : Nat → Nat → Hp → Prop, (∃ m, W 0 m (upd H D (.lst []))) ∧ ∀ i m H, W i m H →
      ((Itr lo n).stop i H ∧ Qd H) ∨ ((Itr lo n).go i H ∧ ∃ Nx : Hp → Prop, (∀ H', Nx H' → ∃ m', m' < m ∧ W (i + 1) m' H') ∧ ∀ x H', (Itr lo n).yld i H x H' → g x (wipe σ vs) H' fun σ2 H2 => wipe σ2 vs = wipe σ vs ∧ tt σ2 H2 fun b H3 =>
        if b = true then te σ2 H3 fun y H4 => ∃ acc, H4 D = some (.lst acc) ∧ acc.length < sizeLine ∧ Nx (upd H4 D (.lst (acc ++ [y]))) else Nx H3) :=
  lc_range (Qd := Qd) Pv h0 hs hd
theorem r_lcL {a : Addr} {xs : List V} {g : TG} {tt : TT} {te : TE} {vs : List Nat} {D : Addr} {Qd : Hp → Prop} (Pv : Nat → Hp → Prop) (h0 : Pv 0 (upd H D (.lst []))) (hl : ∀ i H, i ≤ xs.length → Pv i H → SqL K H a xs)
    (hs : ∀ i x H, xs[i]? = some x → Pv i H → g x (wipe σ vs) H fun σ2 H2 => wipe σ2 vs = wipe σ vs ∧ tt σ2 H2 fun b H3 =>
      if b = true then te σ2 H3 fun y H4 => ∃ acc, H4 D = some (.lst acc) ∧ acc.length < sizeLine ∧ Pv (i + 1) (upd H4 D (.lst (acc ++ [y]))) else Pv (i + 1) H3) (hd : ∀ H, Pv xs.length H → Qd H) :
    ∃ W : Nat → Nat → Hp → Prop, (∃ m, W 0 m (upd H D (.lst []))) ∧ ∀ i m H, W i m H →
      ((Itl K a).stop i H ∧ Qd H) ∨ ((Itl K a).go i H ∧ ∃ Nx : Hp → Prop, (∀ H', Nx H' → ∃ m', m' < m ∧ W (i + 1) m' H') ∧ ∀ x H', (Itl K a).yld i H x H' → g x (wipe σ vs) H' fun σ2 H2 => wipe σ2 vs = wipe σ vs ∧ tt σ2 H2 fun b H3 =>
        if b = true then te σ2 H3 fun y H4 => ∃ acc, H4 D = some (.lst acc) ∧ acc.length < sizeLine ∧ Nx (upd H4 D (.lst (acc ++ [y]))) else Nx H3) :=
  lc_list (Qd := Qd) Pv h0 hl hs hd
theorem r_true {c : Bool} {A B : Prop} (hc : c = true) (h : A) : if c = true then A else B := by rw [if_pos hc]; exact h
theorem r_false {c : Bool} {A B : Prop} (hc : c = false) (h : B) : if c = true then A else B := by rw [hc, if_neg (by decide)]; exact h
theorem len_is {n : Nat} {k : Int} (h : (n : Int) = k) : decide (V.int (n : Int) = V.int k) = true := decide_eq_true (by rw [h])
theorem len_not {n : Nat} {k : Int} (h : (n : Int) ≠ k) : decide (V.int (n : Int) = V.int k) = false := decide_eq_false fun z => h (V.int.inj z)
theorem r_lcZL {a b : Addr} {xs ys : List V} {g : TG} {tt : TT} {te : TE} {vs : List Nat} {D : Addr} {Qd : Hp → Prop} (hl : xs.length = ys.length) (Pv : Nat → Hp → Prop) (h0 : Pv 0 (upd H D (.lst []))) (hq : ∀ i H, Pv i H → SqL K H a xs ∧ SqL K H b ys)
    (hs : ∀ (i : Nat) (x y : V) (T : Addr) (H : Hp), xs[i]? = some x → ys[i]? = some y → Pv i H → H T = none → g (.ref T) (wipe σ vs) (upd H T (.tup [x, y])) fun σ2 H2 => wipe σ2 vs = wipe σ vs ∧ tt σ2 H2 fun b H3 =>
      if b = true then te σ2 H3 fun y H4 => ∃ acc, H4 D = some (.lst acc) ∧ acc.length < sizeLine ∧ Pv (i + 1) (upd H4 D (.lst (acc ++ [y]))) else Pv (i + 1) H3) (hd : ∀ H, Pv xs.length H → Qd H) :
    ∃ W : Nat → Nat → Hp → Prop, (∃ m, W 0 m (upd H D (.lst []))) ∧ ∀ i m H, W i m H →
      ((Itz K a b).stop i H ∧ Qd H) ∨ ((Itz K a b).go i H ∧ ∃ Nx : Hp → Prop, (∀ H', Nx H' → ∃ m', m' < m ∧ W (i + 1) m' H') ∧ ∀ x H', (Itz K a b).yld i H x H' → g x (wipe σ vs) H' fun σ2 H2 => wipe σ2 vs = wipe σ vs ∧ tt σ2 H2 fun b H3 =>
        if b = true then te σ2 H3 fun y H4 => ∃ acc, H4 D = some (.lst acc) ∧ acc.length < sizeLine ∧ Nx (upd H4 D (.lst (acc ++ [y]))) else Nx H3) := by
  refine ⟨fun i m H => m = xs.length - i ∧ i ≤ xs.length ∧ Pv i H, ⟨xs.length, rfl, Nat.zero_le _, h0⟩, ?_⟩
  rintro i m H ⟨rfl, hi, p⟩
  obtain ⟨qx, qy⟩ := hq i H p
  by_cases hlt : i < xs.length
  · have hx : xs[i]? = some xs[i] := List.getElem?_eq_getElem hlt
    have hlt2 : i < ys.length := by omega
    have hy : ys[i]? = some ys[i] := List.getElem?_eq_getElem hlt2
    refine .inr ⟨⟨xs, ys, _, _, qx, qy, hx, hy⟩, Pv (i + 1), fun H' p' => ⟨xs.length - (i + 1), by omega, rfl, hlt, p'⟩, fun v H' y => ?_⟩
    obtain ⟨T, x', y', rfl, hT, rfl, f1, f2⟩ := y
    exact hs i x' y' T _ (f1 xs qx) (f2 ys qy) p hT
  · have e : i = xs.length := by omega
    subst e
    exact .inl ⟨⟨xs, ys, qx, qy, .inl (Nat.le_refl _)⟩, hd H p⟩
theorem r_lcZT {a b : Addr} {xs ys : List V} {g : TG} {tt : TT} {te : TE} {vs : List Nat} {D : Addr} {Qd : Hp → Prop} (hl : xs.length = ys.length) (Pv : Nat → Hp → Prop) (h0 : Pv 0 (upd H D (.lst []))) (hq : ∀ i H, Pv i H → SqT K H a xs ∧ SqT K H b ys)
    (hs : ∀ (i : Nat) (x y : V) (T : Addr) (H : Hp), xs[i]? = some x → ys[i]? = some y → Pv i H → H T = none → g (.ref T) (wipe σ vs) (upd H T (.tup [x, y])) fun σ2 H2 => wipe σ2 vs = wipe σ vs ∧ tt σ2 H2 fun b H3 =>
      if b = true then te σ2 H3 fun y H4 => ∃ acc, H4 D = some (.lst acc) ∧ acc.length < sizeLine ∧ Pv (i + 1) (upd H4 D (.lst (acc ++ [y]))) else Pv (i + 1) H3) (hd : ∀ H, Pv xs.length H → Qd H) :
    ∃ W : Nat → Nat → Hp → Prop, (∃ m, W 0 m (upd H D (.lst []))) ∧ ∀ i m H, W i m H →
      ((RZ.ItzT K a b).stop i H ∧ Qd H) ∨ ((RZ.ItzT K a b).go i H ∧ ∃ Nx : Hp → Prop, (∀ H', Nx H' → ∃ m', m' < m ∧ W (i + 1) m' H') ∧ ∀ x H', (RZ.ItzT K a b).yld i H x H' → g x (wipe σ vs) H' fun σ2 H2 => wipe σ2 vs = wipe σ vs ∧ tt σ2 H2 fun b H3 =>
        if b = true then te σ2 H3 fun y H4 => ∃ acc, H4 D = some (.lst acc) ∧ acc.length < sizeLine ∧ Nx (upd H4 D (.lst (acc ++ [y]))) else Nx H3) := by
  refine ⟨fun i m H => m = xs.length - i ∧ i ≤ xs.length ∧ Pv i H, ⟨xs.length, rfl, Nat.zero_le _, h0⟩, ?_⟩
  rintro i m H ⟨rfl, hi, p⟩
  obtain ⟨qx, qy⟩ := hq i H p
  by_cases hlt : i < xs.length
  · have hx : xs[i]? = some xs[i] := List.getElem?_eq_getElem hlt
    have hlt2 : i < ys.length := by omega
    have hy : ys[i]? = some ys[i] := List.getElem?_eq_getElem hlt2
    refine .inr ⟨⟨xs, ys, _, _, qx, qy, hx, hy⟩, Pv (i + 1), fun H' p' => ⟨xs.length - (i + 1), by omega, rfl, hlt, p'⟩, fun v H' y => ?_⟩
    obtain ⟨T, x', y', rfl, hT, rfl, f1, f2⟩ := y
    exact hs i x' y' T _ (f1 xs qx) (f2 ys qy) p hT
  · have e : i = xs.length := by omega
    subst e
    exact .inl ⟨⟨xs, ys, qx, qy, .inl (Nat.le_refl _)⟩, hd H p⟩
theorem tyT {a : Addr} {xs : List V} (h : SqT K H a xs) : TyX K H (.ref a) (.type "tuple") := by
  rcases h with (h | ⟨o, h⟩) | ⟨o, its, n, h, c, _⟩
  · exact .base (.tup h)
  · exact .fTuple h
  · exact .kTuple h c
theorem tyL {a : Addr} {xs : List V} (h : SqL K H a xs) : TyX K H (.ref a) (.type "list") := by
  rcases h with (h | ⟨o, h⟩) | ⟨o, its, n, h, c, _⟩
  · exact .base (.lst h)
  · exact .base (.frz h)
  · exact .kList h c
theorem r_isi {T c : String} {b : Bool} (ht : TyX K H x (.type T)) (he : PySem.W.kitOne K (.type T) (.type c) = some b) (h : Q (.bl b) H) : rIsi K [x, .ty c] H Q := ⟨x, .ty c, .type T, .type c, b, rfl, .ty c, ht, he, h⟩
theorem r_isiT {T c1 c2 : String} {b : Bool} {p : Addr} (hp : H p = some (.tup [.ty c1, .ty c2])) (ht : TyX K H x (.type T)) (he : PySem.W.kitAny K (.type T) [.type c1, .type c2] = some b) (h : Q (.bl b) H) : rIsiT K [x, .ref p] H Q :=
  ⟨x, p, [.ty c1, .ty c2], .type T, [.type c1, .type c2], b, rfl, hp, .cons (.ty c1) (.cons (.ty c2) .nil), ht, he, h⟩
theorem r_andV (h : ta σ H fun x H1 => ∃ c, x = .bl c ∧ if c = true then tb σ H1 Q else Q (.bl false) H1) : tAndV ta tb σ H Q := h
theorem r_orV (h : ta σ H fun x H1 => ∃ c, x = .bl c ∧ if c = true then Q (.bl true) H1 else tb σ H1 Q) : tOrV ta tb σ H Q := h
theorem r_notV (h : ta σ H fun x H1 => ∃ c, x = .bl c ∧ Q (.bl (!c)) H1) : tNotV ta σ H Q := h
theorem r_all {a : Addr} {bs : List Bool} (h1 : SqL K H a (bs.map V.bl)) (h : Q (.bl (bs.all id)) H) : rAll K [.ref a] H Q := ⟨a, bs, rfl, h1, h⟩
theorem r_any {a : Addr} {bs : List Bool} (h1 : SqL K H a (bs.map V.bl)) (h : Q (.bl (bs.any id)) H) : rAny K [.ref a] H Q := ⟨a, bs, rfl, h1, h⟩
theorem r_iZip {ta : TA} {R : It → Hp → Prop} (h : ta σ H fun vs H1 => ∃ a b xs ys, vs = [.ref a, .ref b] ∧ ((SqL K H1 a xs ∧ SqL K H1 b ys ∧ R (Itz K a b) H1) ∨ (SqT K H1 a xs ∧ SqT K H1 b ys ∧ R (RZ.ItzT K a b) H1))) : RZ.iZipA K ta σ H R := h
theorem r_while (W : Nat → L2.St → Hp → Prop) (m : Nat) (h0 : W m σ H) (hs : ∀ m σ H, W m σ H → c σ H fun b H1 => if b = true then ∃ N : L2.St → Hp → Prop, (∀ σ' H', N σ' H' → ∃ m', m' < m ∧ W m' σ' H') ∧ t ⟨N, rt, nx, N⟩ σ H1 else nx σ H1) : tWhile c t ⟨nx, rt, bk, ct⟩ σ H :=
  ⟨W, ⟨m, h0⟩, hs⟩
theorem r_slL {te : TE} {tl th : TO} {r : V → Option Int → Option Int → Hp → VK → Prop} (h : te σ H fun x H1 => tl σ H1 fun l H2 => th σ H2 fun u H3 => r x l u H3 Q) : tSl r te tl th σ H Q := h
theorem r_noP {R : Option Int → Hp → Prop} (h : R none H) : tNoPart σ H R := h
theorem r_part {te : TE} {R : Option Int → Hp → Prop} (h : te σ H fun x H1 => ∃ i, x = .int i ∧ R (some i) H1) : tPart te σ H R := h
theorem r_exI {i : Int} {R : Int → Prop} (h : R i) : ∃ j, V.int i = .int j ∧ R j := ⟨i, rfl, h⟩
theorem r_slList {a : Addr} {xs : List V} {lo hi : Option Int} (h1 : SqL K H a xs) (h : ∀ p, H p = none → Q (.ref p) (upd H p (.lst (cutV xs lo hi)))) : rSlL K (.ref a) lo hi H Q := ⟨a, xs, rfl, h1, h⟩
theorem r_setL {p : Addr} {xs : List V} {k : Int} {j : Nat} {R : Hp → Prop} (h1 : H p = some (.lst xs)) (h2 : ixN xs.length k = some j) (h : R (upd H p (.lst (xs.set j v)))) : rSetL (.ref p) (.int k) v H R := ⟨p, xs, k, j, rfl, rfl, h1, h2, h⟩
theorem r_int {i : Int} {R : Int → Prop} {B : Prop} (h : R i) : (∃ j, [V.int i] = [.int j] ∧ R j) ∨ B := .inl ⟨i, rfl, h⟩
theorem r_len {p : Addr} {ys : List V} (h1 : SqL K H p ys ∨ SqT K H p ys) (h : Q (.int ys.length) H) : rLn K [.ref p] H Q := ⟨p, ys, rfl, h1, h⟩
theorem r_list {p : Addr} {ys : List V} (h1 : SqL K H p ys ∨ SqT K H p ys) (h : ∀ l, H l = none → Q (.ref l) (upd H l (.lst ys))) : rLs K [.ref p] H Q := ⟨p, ys, rfl, h1, h⟩
end
section
variable {X : Cx}
/-- a statement, then the rest, a word of one's own between them -/
def tMid (t u : TS) : TS := fun D σ H => ∃ M : L2.St → Hp → Prop, t ⟨M, D.rt, D.bk, D.ct⟩ σ H ∧ ∀ σ' H', M σ' H' → u D σ' H'
theorem pss_mid {st : Stmt} {rest : List Stmt} {t u : TS} (h1 : PS X st t) (h2 : PSs X rest u) : PSs X (st :: rest) (tMid t u) := by
  refine ⟨fun pins s σ H D I h => ?_⟩
  obtain ⟨M, hm, hu⟩ := h
  refine wpAny_execs_cons (thn (h1.run pins s σ H ⟨M, D.rt, D.bk, D.ct⟩ I hm) fun f s1 q => ?_)
  cases f with
  | next =>
    obtain ⟨σ', H', I', q⟩ := q
    exact h2.run pins s1 σ' H' D I' (hu σ' H' q)
  | ret v => exact q
  | brk => exact q
  | cont => exact q
theorem r_mid {t u : TS} {nx : L2.St → Hp → Prop} {rt : VK} {bk ct : L2.St → Hp → Prop} {σ : L2.St} {H : Hp} (M : L2.St → Hp → Prop) (h1 : t ⟨M, rt, bk, ct⟩ σ H) (h2 : ∀ σ' H', M σ' H' → u ⟨nx, rt, bk, ct⟩ σ' H') : tMid t u ⟨nx, rt, bk, ct⟩ σ H := ⟨M, h1, h2⟩
/-- a store into a list: the heap behind it by a name -/
theorem r_setB {K : PySem.W.Frag} {H : Hp} {b : Addr} {l : List V} {k : Int} {j : Nat} {v : V} {R : Hp → Prop} (h1 : H b = some (.lst l)) (h2 : ixN l.length k = some j) (l' : List V) (h3 : l.set j v = l')
    (h : ∀ H1, H1 b = some (.lst l') → Ext [b] H H1 → (∀ a xs, SqL K H a xs → xs ≠ l → SqL K H1 a xs) → R H1) : rSetL (.ref b) (.int k) v H R := by
  refine ⟨b, l, k, j, rfl, rfl, h1, h2, h _ ?_ (Ext.refl.at_ List.mem_cons_self) fun a xs q hd => ?_⟩
  · rw [h3]
    exact upd_same
  · rcases q with (q | ⟨u, q⟩) | q
    · exact .inl (.inl (by rw [upd_ne (fun z => hd (by rw [z, h1] at q; cases q; rfl))]; exact q))
    · exact .inl (.inr ⟨u, by rw [upd_ne (fun z => by rw [z, h1] at q; cases q)]; exact q⟩)
    · exact .inr q
end
section
variable {P : Program} {w : World} {K : PySem.W.Frag} {mg : Str → Option Value} {base : Heap}
/-- def f(a, .., *v) -/
theorem fn_star {x pv : Str} {params : Arguments} {body : List Stmt} {scope : Scope} {f : Addr} {fd : FuncData} {N ps : List Str} {k : Nat} {sp sp' : Sp}
    (F : FunD K x x params body scope [] [] f fd) (hm : mg x = some (.ref f)) (S : FnScope N (ps ++ [pv]) scope)
    (hb : ∀ (kV doc pm : Value) (an : Option Addr) (cdv ct : Value) (us rest : List Value), us.length = ps.length → bindArgs (PySem.W.fnOf x x params body scope .none kV doc pm an cdv ct) ⟨us ++ rest, []⟩ = (newTuple rest >>= fun t => pure (ps.zip us ++ [(pv, t)])))
    (hbody : ∀ (cdv : Value) (A : Around) (outer : List Env) (s : Shared) (H : Hp) (vs : List V) (Q : VK) (E : XK), Room k (A.deeper (envOfC x scope s.heap.objs.size f cdv)) → sp vs H Q E →
      ∃ t, PSs (cxOf CX0 P w K mg base N x scope f cdv A outer s H E).nox body t ∧ t ⟨fun _ H' => Q .non H', Q, fun _ _ => False, fun _ _ => False⟩ (start N vs) H)
    (himp : ∀ vs H Q E, sp' vs H Q E → ∃ ws rest, vs = ws ++ rest ∧ ws.length = ps.length ∧ rest.length ≤ sizeLine ∧ ∀ p, H p = none → sp (ws ++ [V.ref p]) (upd H p (.tup rest)) Q E) : Fn P w K mg base (k + 1) x sp' := by
  have kp := F.kp
  obtain ⟨oc, od, dV, kV, doc, pm, an, cdv, ct, osl, rfl, lk, hcd, hD, _⟩ := F.ex
  rcases hD with ⟨_, rfl⟩ | ⟨e, _⟩
  · have R := StX.fn_star (P := P) (w := w) (mg := mg) (base := base) (sp := sp) lk hcd S StX.cxUp_none (hb kV doc pm an cdv ct) (fun A outer s H vs Q E hr h => let ⟨t, h1, h2⟩ := hbody cdv A outer s H vs Q E hr h; ⟨t, h1.nox, h2⟩)
    exact ⟨f, hm, kp, R.imp himp⟩
  · exact absurd rfl e
end
end Yk

set_option maxHeartbeats 1000000
/-! Calls by name: two parameters, told in the other order. -/
namespace Yk
open PySem PySem.Spec PyProof.Rows L2
def sw2 {α : Type} (us ws : List α) : List α := match us, ws with
  | [], [a, b] => [b, a]
  | _, _ => []
theorem sw2_rel {vs : List V} {us : List Value} {zs : List V} {ws : List Value} (h1 : Vals vs us) (h2 : Vals zs ws) : Vals (sw2 vs zs) (sw2 us ws) := by
  cases h1 with
  | cons a b => exact .nil
  | nil =>
    cases h2 with
    | nil => exact .nil
    | cons a h2 =>
      cases h2 with
      | nil => exact .nil
      | cons b h2 =>
        cases h2 with
        | nil => exact .cons b (.cons a .nil)
        | cons c h2 => exact .nil
section
variable (P : Program) (w : World) (K : PySem.W.Frag) (mg : Str → Option Value) (base : Heap)
structure FnS (k : Nat) (x : Str) (ks : List Str) (sp : Sp) : Prop where
  run : ∃ f fd ps, mg x = some (.ref f) ∧ PySem.W.keepIn K (.ref f) = true ∧ FnOk P w K mg base CX0 k f fd ps sp ∧ KBinds K fd ps ks sw2 sw2
end
section
variable {P : Program} {w : World} {K : PySem.W.Frag} {mg : Str → Option Value} {base : Heap} {f : Addr} {fd : FuncData}
theorem ok_def {x : Str} {params : Arguments} {body : List Stmt} {scope : Scope} {N ps : List Str} {k : Nat} {sp : Sp}
    (F : FunD K x x params body scope [] [] f fd) (S : FnScope N ps scope) (len : ∀ vs H Q E, sp vs H Q E → vs.length = ps.length)
    (hbody : ∀ (cdv : Value) (A : Around) (outer : List Env) (s : Shared) (H : Hp) (vs : List V) (Q : VK) (E : XK), Room k (A.deeper (envOfC x scope s.heap.objs.size f cdv)) → sp vs H Q E →
      ∃ t, PSs (cxOf CX0 P w K mg base N x scope f cdv A outer s H E).nox body t ∧ t ⟨fun _ H' => Q .non H', Q, fun _ _ => False, fun _ _ => False⟩ (start N vs) H) : FnOk P w K mg base CX0 (k + 1) f fd ps sp :=
  F.ok S len fun cdv A outer s H vs Q E hr h => by
    obtain ⟨t, h1, h2⟩ := hbody cdv A outer s H vs Q E hr h
    exact ⟨t, h1.nox, h2⟩
theorem fn_none {x : Str} {params : Arguments} {body : List Stmt} {scope : Scope} (F : FunD K x x params body scope [] [] f fd) {k : Nat} (hm : mg x = some (.ref f)) : Fn P w K mg base k x (fun _ _ _ _ => False) :=
  ⟨f, hm, F.kp, fun _ _ _ _ _ _ _ _ _ _ _ h => h.elim⟩
theorem fn_of_ok {x : Str} {params : Arguments} {body : List Stmt} {scope : Scope} {ps : List Str} {k : Nat} {sp : Sp}
    (F : FunD K x x params body scope [] [] f fd) (hm : mg x = some (.ref f)) (G : FnOk P w K mg base CX0 k f fd ps sp)
    (hb : ∀ (kV doc pm : Value) (an : Option Addr) (cdv ct : Value) (us : List Value), us.length = ps.length → bindArgs (PySem.W.fnOf x x params body scope .none kV doc pm an cdv ct) ⟨us, []⟩ = pure (ps.zip us)) : Fn P w K mg base k x sp := by
  have b := F.bindsN hb
  have R := G.raw b .nil
  refine ⟨f, hm, F.kp, R.imp fun vs H Q E h => ?_⟩
  rw [List.append_nil]
  exact h
theorem fs_of_ok {x p1 p2 : Str} {params : Arguments} {body : List Stmt} {scope : Scope} {k : Nat} {sp : Sp}
    (F : FunD K x x params body scope [] [] f fd) (hm : mg x = some (.ref f)) (G : FnOk P w K mg base CX0 k f fd [p1, p2] sp)
    (hb : ∀ (kV doc pm : Value) (an : Option Addr) (cdv ct : Value) (a b : Value), bindArgs (PySem.W.fnOf x x params body scope .none kV doc pm an cdv ct) ⟨[], [(p2, a), (p1, b)]⟩ = pure [(p1, b), (p2, a)]) : FnS P w K mg base k x [p2, p1] sp := by
  refine ⟨f, fd, [p1, p2], hm, F.kp, G, ⟨fun s us ws hK hl => ?_, sw2_rel⟩⟩
  obtain ⟨oc, od, dV, kV, doc, pm, an, cdv, ct, osl, rfl, lk, hcd, hD, _⟩ := F.ex
  rcases hD with ⟨_, rfl⟩ | ⟨e, _⟩
  · match us, ws, hl with
    | [], [a, b], _ => exact .of_eq (hb kV doc pm an cdv ct a b)
    | [], [], h => cases h
    | [], [_], h => cases h
    | [], _ :: _ :: _ :: _, h => cases h
    | _ :: _, _, h => cases h
  · exact absurd rfl e
end
section
variable {X : Cx} {k : Nat} {sp : Sp} {x : Str} {p pos : Pos} {ks : List Str} {kws : List Keyword} {tk : TA}
def tRS (sp : Sp) (tk : TA) : TE := fun σ H Q => tk σ H fun zs H1 => ∃ a b, zs = [a, b] ∧ sp [b, a] H1 Q E0
theorem r_RS {σ : L2.St} {H : Hp} {Q : VK} (h : tk σ H fun zs H1 => ∃ a b, zs = [a, b] ∧ sp [b, a] H1 Q E0) : tRS sp tk σ H Q := h
theorem pe_fnS (F : FnS X.prog X.w X.K X.mg X.base k x ks sp) (hr : Room k X.A) (hkw : PK X kws tk) (hg : Gl X x := by rfl) (hdb : (x == ("__debug__" : Str)) = false := by decide)
    (hx : Passes CX0 X E0 := by exact pass0)
    (hall : (backToKw pos (keywordEach kws X.env)).all (·.1.isSome) = true := by rfl) (hks : (backToKw pos (keywordEach kws X.env)).filterMap (·.1) = ks := by rfl)
    (hpl : ((backTo pos (starEach [] X.env)).any (·.1) || (backToKw pos (keywordEach kws X.env)).any (·.1.isNone)) = false := by rfl) :
    PE X (.Call (.Name x p) [] kws pos) (tRS sp tk) := by
  obtain ⟨f, fd, ps, hm, hk, F, hb⟩ := F.run
  refine ⟨fun pins s σ H Q I h => ?_⟩
  refine wpAny_Call_Name_kw (ld_glob I hg hm ?_ hdb)
  refine PySem.W.callWith_KW0 (h₀ := X.base) I.ok.mod.kin hk hall ?_ hpl
  refine thn (hkw.run pos pins s σ H _ I h) fun ws s2 ⟨zs, H2, I2, rz, a, b, ez, q2⟩ => ⟨I2.kIn, ?_⟩
  rw [hks]
  subst ez
  exact run_fnk (us := []) (vs := []) (g := sw2) (gV := sw2) F hr hb hx I2 .nil rz q2
end

/-! stars, and what is a list or a tuple -/
section
variable {X : Cx} {k : Nat} {sp : Sp} {x : Str} {p sp_ pos : Pos} {e : Expr} {es : List Expr} {te : TE} {t : TA}
def tR1 (K : PySem.W.Frag) (sp : Sp) (te : TE) : TE := fun σ H Q => te σ H fun y H1 => ∃ a xs, y = V.ref a ∧ (SqT K H1 a xs ∨ SqL K H1 a xs) ∧ sp xs H1 Q E0
theorem r_R1 {K : PySem.W.Frag} {σ : L2.St} {H : Hp} {Q : VK} (h : te σ H fun y H1 => ∃ a xs, y = V.ref a ∧ (SqT K H1 a xs ∨ SqL K H1 a xs) ∧ sp xs H1 Q E0) : tR1 K sp te σ H Q := h
theorem r_star {K : PySem.W.Frag} {σ : L2.St} {H : Hp} {R : List V → Hp → Prop} (h : te σ H fun x H1 => ∃ p xs, x = V.ref p ∧ (SqT K H1 p xs ∨ SqL K H1 p xs) ∧ t σ H1 fun ys H2 => R (xs ++ ys) H2) : StX.tStar K te t σ H R := h
theorem pe_fnS1 (F : Fn X.prog X.w X.K X.mg X.base k x sp) (hr : Room k X.A) (he : PE X e te) (hg : Gl X x := by rfl) (hdb : (x == ("__debug__" : Str)) = false := by decide) (hx : Passes CX0 X E0 := by exact pass0)
    (hst : starEach [.Starred e sp_] X.env = [(true, eval e X.env)] := by rfl) : PE X (.Call (.Name x p) [.Starred e sp_] [] pos) (tR1 X.K sp te) := by
  obtain ⟨f, hm, hk, F⟩ := F.run
  exact StX.pe_callS1 F hr hk hg hm hx he hdb hst
theorem pe_fnS2 (F : Fn X.prog X.w X.K X.mg X.base k x sp) (hr : Room k X.A) (ha : PA X (e :: es) t) (hg : Gl X x := by rfl) (hdb : (x == ("__debug__" : Str)) = false := by decide) (hx : Passes CX0 X E0 := by exact pass0)
    (he : starEach (e :: es) X.env = (false, eval e X.env) :: starEach es X.env := by rfl) (hst : (backTo pos (starEach es X.env)).any (·.1) = true := by rfl) : PE X (.Call (.Name x p) (e :: es) [] pos) (tR sp t) := by
  obtain ⟨f, hm, hk, F⟩ := F.run
  exact StX.pe_callS2 F hr hk hg hm hx ha hdb he hst
def iSeq (K : PySem.W.Frag) (tl : TE) : TI := fun σ H R => iList K tl σ H R ∨ iTup K tl σ H R
theorem pi_seq {tg l : Expr} {tl : TE} (hl : PE X l tl) : PI X tg l (iSeq X.K tl) :=
  ⟨fun pins s σ H R I h => h.elim (fun h => (pi_list hl).run pins s σ H R I h) (fun h => (pi_tup hl).run pins s σ H R I h)⟩
end
section
variable {K : PySem.W.Frag} {nx : L2.St → Hp → Prop} {rt : VK} {bk ct : L2.St → Hp → Prop} {σ : L2.St} {H : Hp} {Q : VK} {g : TG} {tt : TT} {te : TE} {t : TS} {vs : List Nat}
/-- carried on: what is a list or a tuple at a -/
def Kp (K : PySem.W.Frag) (a : Addr) (xs : List V) (H H2 : Hp) : Prop := (SqL K H a xs → SqL K H2 a xs) ∧ (SqT K H a xs → SqT K H2 a xs)
theorem kp0 {a : Addr} {xs : List V} {H2 : Hp} (e : Ext [] H H2) : Kp K a xs H H2 := ⟨lst0 e, tup0 e⟩
theorem Kp.trans {a : Addr} {xs : List V} {H1 H2 : Hp} (h : Kp K a xs H H1) (g : Kp K a xs H1 H2) : Kp K a xs H H2 := ⟨fun z => g.1 (h.1 z), fun z => g.2 (h.2 z)⟩
abbrev SqQ (K : PySem.W.Frag) (H : Hp) (a : Addr) (xs : List V) : Prop := SqL K H a xs ∨ SqT K H a xs
theorem Kp.q {a : Addr} {xs : List V} {H2 : Hp} (h : Kp K a xs H H2) (z : SqQ K H a xs) : SqQ K H2 a xs := z.elim (fun z => .inl (h.1 z)) fun z => .inr (h.2 z)
theorem sqq0 {a : Addr} {xs : List V} {H2 : Hp} (e : Ext [] H H2) (h : SqQ K H a xs) : SqQ K H2 a xs := (kp0 e).q h
theorem r_lcQ {i : Nat} {a : Addr} {xs : List V} {Qd : Addr → Hp → Prop} {H0 : Hp} (h1 : σ[i]? = some (some (.ref a))) (h2 : SqQ K H0 a xs) (hk : Kp K a xs H0 H) (h : ∀ D, H D = none → ∃ Pv : Nat → Hp → Prop, Pv 0 (upd H D (.lst [])) ∧ (∀ j H2, Pv j H2 → Kp K a xs H0 H2) ∧
    (∀ j x H, xs[j]? = some x → Pv j H → g x (wipe σ vs) H fun σ2 H2 => wipe σ2 vs = wipe σ vs ∧ tt σ2 H2 fun b H3 =>
      if b = true then te σ2 H3 fun y H4 => ∃ acc, H4 D = some (.lst acc) ∧ acc.length < sizeLine ∧ Pv (j + 1) (upd H4 D (.lst (acc ++ [y]))) else Pv (j + 1) H3) ∧ ∀ H, Pv xs.length H → Qd D H) :
    iSeq K (tVar i) σ H fun J H1 => ∀ D, H1 D = none → ∃ W : Nat → Nat → Hp → Prop, (∃ m, W 0 m (upd H1 D (.lst []))) ∧ ∀ i m H, W i m H →
      (J.stop i H ∧ Qd D H) ∨ (J.go i H ∧ ∃ Nx : Hp → Prop, (∀ H', Nx H' → ∃ m', m' < m ∧ W (i + 1) m' H') ∧ ∀ x H', J.yld i H x H' → g x (wipe σ vs) H' fun σ2 H2 => wipe σ2 vs = wipe σ vs ∧ tt σ2 H2 fun b H3 =>
        if b = true then te σ2 H3 fun y H4 => ∃ acc, H4 D = some (.lst acc) ∧ acc.length < sizeLine ∧ Nx (upd H4 D (.lst (acc ++ [y]))) else Nx H3) := by
  rcases h2 with h2 | h2
  · refine Or.inl ⟨_, h1, a, rfl, ⟨xs, hk.1 h2⟩, fun D hD => ?_⟩
    obtain ⟨Pv, p0, pk, ps, pd⟩ := h D hD
    exact lc_list (Qd := Qd D) Pv p0 (fun j H2 _ p => (pk j H2 p).1 h2) ps pd
  · refine Or.inr ⟨_, h1, a, rfl, ⟨xs, hk.2 h2⟩, fun D hD => ?_⟩
    obtain ⟨Pv, p0, pk, ps, pd⟩ := h D hD
    exact lc_tup (Qd := Qd D) Pv p0 (fun j H2 _ p => (pk j H2 p).2 h2) ps pd
theorem r_forQ {i : Nat} {a : Addr} {xs : List V} {H0 : Hp} (h1 : σ[i]? = some (some (.ref a))) (h2 : SqQ K H0 a xs) (hk : Kp K a xs H0 H) (Pv : Nat → L2.St → Hp → Prop) (h0 : Pv 0 σ H) (hl : ∀ i σ H2, i ≤ xs.length → Pv i σ H2 → Kp K a xs H0 H2)
    (hs : ∀ i x σ H, xs[i]? = some x → Pv i σ H → g x σ H fun σ2 H2 => t ⟨Pv (i + 1), rt, nx, Pv (i + 1)⟩ σ2 H2) (hd : ∀ σ H, Pv xs.length σ H → nx σ H) : tFor (iSeq K (tVar i)) g t ⟨nx, rt, bk, ct⟩ σ H := by
  rcases h2 with h2 | h2
  · exact Or.inl ⟨_, h1, a, rfl, ⟨xs, hk.1 h2⟩, for_list (D := ⟨nx, rt, nx, nx⟩) Pv h0 (fun i σ H2 z p => (hl i σ H2 z p).1 h2) hs hd⟩
  · exact Or.inr ⟨_, h1, a, rfl, ⟨xs, hk.2 h2⟩, for_tup (D := ⟨nx, rt, nx, nx⟩) Pv h0 (fun i σ H2 z p => (hl i σ H2 z p).2 h2) hs hd⟩
end
/-! rows that go together -/
section
variable {α β : Type}
def Rel (R : V → α → Prop) (xs : List V) (rs : List α) : Prop := xs.length = rs.length ∧ ∀ (i : Nat) (v : V) (r : α), xs[i]? = some v → rs[i]? = some r → R v r
variable {R R' : V → α → Prop} {xs ys : List V} {rs ts : List α}
theorem Rel.nil : Rel R [] [] := ⟨rfl, fun i v q h => by simp at h⟩
theorem Rel.cons {v : V} {r : α} (h : R v r) (g : Rel R xs rs) : Rel R (v :: xs) (r :: rs) := by
  refine ⟨by simp [g.1], fun i w u a b => ?_⟩
  cases i with
  | zero =>
    simp at a b
    subst a b
    exact h
  | succ i =>
    simp at a b
    exact g.2 i w u a b
theorem Rel.imp (h : Rel R xs rs) (f : ∀ v r, R v r → R' v r) : Rel R' xs rs := ⟨h.1, fun i v r a b => f v r (h.2 i v r a b)⟩
theorem Rel.impM (h : Rel R xs rs) (f : ∀ v r, r ∈ rs → R v r → R' v r) : Rel R' xs rs := ⟨h.1, fun i v r a b => f v r (List.mem_of_getElem? b) (h.2 i v r a b)⟩
theorem Rel.at_ (h : Rel R xs rs) {i : Nat} {v : V} (hv : xs[i]? = some v) : ∃ r, rs[i]? = some r ∧ R v r := by
  have hi : i < rs.length := by rw [← h.1]; exact (List.getElem?_eq_some_iff.mp hv).1
  exact ⟨rs[i], List.getElem?_eq_getElem hi, h.2 i v _ hv (List.getElem?_eq_getElem hi)⟩
theorem Rel.app (h : Rel R xs rs) (g : Rel R ys ts) : Rel R (xs ++ ys) (rs ++ ts) := by
  refine ⟨by rw [List.length_append, List.length_append, h.1, g.1], fun j v q a b => ?_⟩
  by_cases hj : j < xs.length
  · rw [List.getElem?_append_left hj] at a
    rw [List.getElem?_append_left (by rw [← h.1]; exact hj)] at b
    exact h.2 j v q a b
  · rw [List.getElem?_append_right (by omega)] at a
    rw [List.getElem?_append_right (by rw [← h.1]; omega), ← h.1] at b
    exact g.2 _ v q a b
theorem Rel.hd {v : V} {r : α} (h : Rel R (v :: xs) (r :: rs)) : R v r := h.2 0 v r rfl rfl
theorem Rel.tl {v : V} {r : α} (h : Rel R (v :: xs) (r :: rs)) : Rel R xs rs := ⟨by simpa using h.1, fun i w u a b => h.2 (i + 1) w u (by simpa using a) (by simpa using b)⟩
theorem Rel.cases {v : V} (h : Rel R (v :: xs) rs) : ∃ r t, rs = r :: t ∧ R v r ∧ Rel R xs t := by
  cases rs with
  | nil => exact absurd h.1 (by simp)
  | cons r t => exact ⟨r, t, rfl, h.hd, h.tl⟩
theorem Rel.take (h : Rel R xs rs) (n : Nat) : Rel R (xs.take n) (rs.take n) := by
  refine ⟨by rw [List.length_take, List.length_take, h.1], fun j v q a b => ?_⟩
  rw [List.getElem?_take] at a b
  split at a
  · rename_i hj
    rw [if_pos hj] at b
    exact h.2 j v q a b
  · cases a
theorem Rel.drop (h : Rel R xs rs) (n : Nat) : Rel R (xs.drop n) (rs.drop n) := by
  refine ⟨by rw [List.length_drop, List.length_drop, h.1], fun j v q a b => ?_⟩
  rw [List.getElem?_drop] at a b
  exact h.2 _ v q a b
theorem Rel.perm (p : ys.Perm xs) : ∀ {rs : List α}, Rel R xs rs → ∃ ts, Rel R ys ts ∧ ts.Perm rs := by
  induction p with
  | nil => exact fun {rs} h => ⟨rs, h, List.Perm.refl _⟩
  | cons x _ ih =>
    intro rs h
    obtain ⟨r, t, rfl, a, b⟩ := h.cases
    obtain ⟨ts, c, d⟩ := ih b
    exact ⟨r :: ts, .cons a c, d.cons r⟩
  | swap x y l =>
    intro rs h
    obtain ⟨r1, t, rfl, a, b⟩ := h.cases
    obtain ⟨r2, t, rfl, c, d⟩ := b.cases
    exact ⟨r2 :: r1 :: t, .cons c (.cons a d), List.Perm.swap r1 r2 t⟩
  | trans _ _ ih1 ih2 =>
    intro rs h
    obtain ⟨ts, a, b⟩ := ih2 h
    obtain ⟨us, c, d⟩ := ih1 a
    exact ⟨us, c, d.trans b⟩
theorem Rel.snoc {v : V} {r : α} (h : Rel R xs rs) (g : R v r) : Rel R (xs ++ [v]) (rs ++ [r]) := h.app (.cons g .nil)
end
/-! steps -/
section
variable {K : PySem.W.Frag} {nx : L2.St → Hp → Prop} {rt : VK} {bk ct : L2.St → Hp → Prop} {σ : L2.St} {H : Hp} {Q : VK} {te : TE} {x y : V}
theorem r_app {l : Addr} {xs : List V} (h1 : H l = some (.lst xs)) (h2 : xs.length ≤ 4000) (h : Q .non (upd H l (.lst (xs ++ [y])))) : rAppend (.ref l) [y] H Q := ⟨l, xs, y, rfl, rfl, h1, Nat.lt_of_le_of_lt h2 (by decide), h⟩
theorem ty_lst {l : Addr} {xs : List V} (h : H l = some (.lst xs)) : tyV K "list" (.ref l) H := .inl ⟨rfl, xs, .inl (.inl h)⟩
theorem r_aug {i : Nat} {ti : TIp} (h1 : σ[i]? = some (some x)) (h : te σ H fun y H1 => ti x y H1 fun z H2 => nx (σ.set i (some z)) H2) : tAug i te ti ⟨nx, rt, bk, ct⟩ σ H := ⟨x, h1, h⟩
theorem r_ipI {f : Int → Int → Int} {i j : Int} {R : V → Hp → Prop} (h : R (.int (f i j)) H) : ipI f (.int i) (.int j) H R := ⟨i, j, rfl, rfl, h⟩
theorem cut_drop {xs : List V} {n : Nat} (h : n ≤ xs.length) : cutV xs (some (n : Int)) none = xs.drop n := by
  have e : HT.sIx xs.length 0 (some (n : Int)) = n := by rw [HT.sIx_nat]; exact Nat.min_eq_left h
  have e2 : HT.sIx xs.length xs.length none = xs.length := rfl
  unfold cutV
  rw [e, e2]
  exact List.take_of_length_le (by simp)
theorem cut_take {xs : List V} {n : Nat} (h : n ≤ xs.length) : cutV xs none (some (n : Int)) = xs.take n := by
  have e : HT.sIx xs.length xs.length (some (n : Int)) = n := by rw [HT.sIx_nat]; exact Nat.min_eq_left h
  have e2 : HT.sIx xs.length 0 none = 0 := rfl
  unfold cutV
  rw [e, e2]
  simp
end
section
theorem ixN_at {n j : Nat} {i : Int} (h : i = (j : Int)) (hj : j < n) : ixN n i = some j := by
  unfold ixN
  rw [if_pos (by omega), if_pos (by omega), h, Int.toNat_natCast]
theorem at0 {v : V} {xs : List V} : atI (v :: xs) 0 = some v := atI_nat (j := 0) rfl
theorem at1 {v w : V} {xs : List V} : atI (v :: w :: xs) 1 = some w := atI_nat (j := 1) rfl
theorem at_n {v : V} {xs : List V} {n : Nat} {i : Int} (hi : i = (n : Int)) (h : xs[n]? = some v) : atI xs i = some v := by rw [hi]; exact atI_nat h
end
theorem r_ndec {p : Prop} [Decidable p] {A B : Prop} (h1 : ¬ p → A) (h2 : p → B) : if (!decide p) = true then A else B := by
  by_cases hp : p
  · rw [decide_eq_true hp, if_neg (by decide)]; exact h2 hp
  · rw [decide_eq_false hp, if_pos (by decide)]; exact h1 hp
def rTs (K : PySem.W.Frag) : List V → Hp → VK → Prop := fun xs H Q => ∃ p ys, xs = [.ref p] ∧ ((SqL K H p ys ∧ ∀ l, H l = none → Q (.ref l) (upd H l (.tup ys))) ∨ (SqT K H p ys ∧ Q (.ref p) H))
theorem cr_tuple {X : Cx} : CallR X (.type "tuple") (rTs X.K) := call_tuple_of
theorem r_tupleL {K : PySem.W.Frag} {H : Hp} {Q : VK} {p : Addr} {ys : List V} (h : SqL K H p ys) (k : ∀ l, H l = none → Q (.ref l) (upd H l (.tup ys))) : rTs K [.ref p] H Q := ⟨p, ys, rfl, .inl ⟨h, k⟩⟩
end Yk

set_option maxHeartbeats 1000000
/-! Calls by place and by name, in any order; data that stands clear of some addresses. -/
namespace Yk
open PySem PySem.Spec PyProof.Rows L2
/-- the parameters' values: the i-th is the idx[i]-th of all that are passed -/
def arr {α : Type} (m n : Nat) (idx : List Nat) (us ws : List α) : List α := if us.length = m ∧ ws.length = n then idx.filterMap fun i => (us ++ ws)[i]? else []
theorem Vals.app {vs zs : List V} {us ws : List Value} (h : Vals vs us) (g : Vals zs ws) : Vals (vs ++ zs) (us ++ ws) := by
  induction h with
  | nil => exact g
  | cons a _ ih => exact .cons a ih
theorem Vals.get {vs : List V} {us : List Value} (h : Vals vs us) : ∀ i : Nat, (vs[i]? = none ∧ us[i]? = none) ∨ ∃ v u, vs[i]? = some v ∧ us[i]? = some u ∧ RelV v u := by
  induction h with
  | nil => intro i; exact .inl ⟨rfl, rfl⟩
  | cons a _ ih =>
    intro i
    cases i with
    | zero => exact .inr ⟨_, _, rfl, rfl, a⟩
    | succ i => exact ih i
theorem Vals.pick {vs : List V} {us : List Value} (h : Vals vs us) : ∀ idx : List Nat, Vals (idx.filterMap fun i => vs[i]?) (idx.filterMap fun i => us[i]?)
  | [] => .nil
  | i :: idx => by
    rcases Vals.get h i with ⟨a, b⟩ | ⟨v, u, a, b, r⟩
    · rw [List.filterMap_cons_none a, List.filterMap_cons_none b]
      exact Vals.pick h idx
    · rw [List.filterMap_cons_some a, List.filterMap_cons_some b]
      exact .cons r (Vals.pick h idx)
theorem arr_rel {m n : Nat} {idx : List Nat} {vs : List V} {us : List Value} {zs : List V} {ws : List Value} (h1 : Vals vs us) (h2 : Vals zs ws) : Vals (arr m n idx vs zs) (arr m n idx us ws) := by
  unfold arr
  rw [h1.length, h2.length]
  split
  · exact Vals.pick (Vals.app h1 h2) idx
  · exact .nil
section
variable (P : Program) (w : World) (K : PySem.W.Frag) (mg : Str → Option Value) (base : Heap)
structure FnX (k : Nat) (x : Str) (m : Nat) (ks : List Str) (idx : List Nat) (sp : Sp) : Prop where
  run : ∃ f fd ps, mg x = some (.ref f) ∧ PySem.W.keepIn K (.ref f) = true ∧ FnOk P w K mg base CX0 k f fd ps sp ∧ KBinds K fd ps ks (arr m ks.length idx) (arr m ks.length idx)
end
section
variable {P : Program} {w : World} {K : PySem.W.Frag} {mg : Str → Option Value} {base : Heap} {f : Addr} {fd : FuncData}
theorem fx_of_ok {x : Str} {params : Arguments} {body : List Stmt} {scope : Scope} {ps : List Str} {k : Nat} {sp : Sp} (m : Nat) (ks : List Str) (idx : List Nat)
    (F : FunD K x x params body scope [] [] f fd) (hm : mg x = some (.ref f)) (G : FnOk P w K mg base CX0 k f fd ps sp) (h0 : 0 < ps.length)
    (hb : ∀ (kV doc pm : Value) (an : Option Addr) (cdv ct : Value) (us ws : List Value), us.length = m → ws.length = ks.length → bindArgs (PySem.W.fnOf x x params body scope .none kV doc pm an cdv ct) ⟨us, ks.zip ws⟩ = pure (ps.zip (arr m ks.length idx us ws))) : FnX P w K mg base k x m ks idx sp := by
  refine ⟨f, fd, ps, hm, F.kp, G, ⟨fun s us ws hK hl => ?_, arr_rel⟩⟩
  obtain ⟨oc, od, dV, kV, doc, pm, an, cdv, ct, osl, rfl, lk, hcd, hD, _⟩ := F.ex
  rcases hD with ⟨_, rfl⟩ | ⟨e, _⟩
  · by_cases hc : us.length = m ∧ ws.length = ks.length
    · exact .of_eq (hb kV doc pm an cdv ct us ws hc.1 hc.2)
    · have e : arr m ks.length idx us ws = [] := if_neg hc
      rw [e] at hl
      exact absurd hl (by show (0 : Nat) ≠ ps.length; omega)
  · exact absurd rfl e
end
section
variable {X : Cx} {k m : Nat} {sp : Sp} {x : Str} {p pos : Pos} {ks : List Str} {idx : List Nat} {kws : List Keyword} {e : Expr} {es : List Expr} {t tk : TA}
def tRX (m n : Nat) (idx : List Nat) (sp : Sp) (t tk : TA) : TE := fun σ H Q => t σ H fun vs H1 => tk σ H1 fun zs H2 => ∃ us, us = arr m n idx vs zs ∧ sp us H2 Q E0
theorem r_RX {n : Nat} {σ : L2.St} {H : Hp} {Q : VK} (h : t σ H fun vs H1 => tk σ H1 fun zs H2 => ∃ us, us = arr m n idx vs zs ∧ sp us H2 Q E0) : tRX m n idx sp t tk σ H Q := h
theorem pe_fnX (F : FnX X.prog X.w X.K X.mg X.base k x m ks idx sp) (hr : Room k X.A) (ha : PA X (e :: es) t) (hkw : PK X kws tk) (hg : Gl X x := by rfl) (hdb : (x == ("__debug__" : Str)) = false := by decide)
    (hx : Passes CX0 X E0 := by exact pass0)
    (hall : (backToKw pos (keywordEach kws X.env)).all (·.1.isSome) = true := by rfl) (hks : (backToKw pos (keywordEach kws X.env)).filterMap (·.1) = ks := by rfl)
    (he : starEach (e :: es) X.env = (false, eval e X.env) :: starEach es X.env := by rfl)
    (hpl : ((backTo pos (starEach (e :: es) X.env)).any (·.1) || (backToKw pos (keywordEach kws X.env)).any (·.1.isNone)) = false := by rfl) :
    PE X (.Call (.Name x p) (e :: es) kws pos) (tRX m ks.length idx sp t tk) := by
  obtain ⟨f, fd, ps, hm, hk, F, hb⟩ := F.run
  refine ⟨fun pins s σ H Q I h => ?_⟩
  refine wpAny_Call_Name_kw (ld_glob I hg hm ?_ hdb)
  refine PySem.W.callWith_KW (h₀ := X.base) I.ok.mod.kin hk hall (thn (ha.run pos pins s σ H _ I h) fun us s1 ⟨vs, H1, I1, r, q⟩ => ?_) hpl he
  refine thn (hkw.run pos pins s1 σ H1 _ I1 q) fun ws s2 ⟨zs, H2, I2, rz, us', e, q2⟩ => ⟨I2.kIn, ?_⟩
  rw [hks]
  subst e
  exact run_fnk F hr hb hx I2 r rz q2
theorem pe_fnX0 (F : FnX X.prog X.w X.K X.mg X.base k x m ks idx sp) (hr : Room k X.A) (hkw : PK X kws tk) (hg : Gl X x := by rfl) (hdb : (x == ("__debug__" : Str)) = false := by decide)
    (hx : Passes CX0 X E0 := by exact pass0)
    (hall : (backToKw pos (keywordEach kws X.env)).all (·.1.isSome) = true := by rfl) (hks : (backToKw pos (keywordEach kws X.env)).filterMap (·.1) = ks := by rfl)
    (hpl : ((backTo pos (starEach [] X.env)).any (·.1) || (backToKw pos (keywordEach kws X.env)).any (·.1.isNone)) = false := by rfl) :
    PE X (.Call (.Name x p) [] kws pos) (tRX m ks.length idx sp tNil tk) := by
  obtain ⟨f, fd, ps, hm, hk, F, hb⟩ := F.run
  refine ⟨fun pins s σ H Q I h => ?_⟩
  refine wpAny_Call_Name_kw (ld_glob I hg hm ?_ hdb)
  refine PySem.W.callWith_KW0 (h₀ := X.base) I.ok.mod.kin hk hall ?_ hpl
  refine thn (hkw.run pos pins s σ H _ I h) fun ws s2 ⟨zs, H2, I2, rz, us, e, q2⟩ => ⟨I2.kIn, ?_⟩
  rw [hks]
  subst e
  exact run_fnk (us := []) (vs := []) F hr hb hx I2 .nil rz q2
end
/-! data clear of S -/
mutual
inductive Dq (K : PySem.W.Frag) (S : List Addr) (H : Hp) : V → PyData → Prop
  | non : Dq K S H .non .none
  | bl (b : Bool) : Dq K S H (.bl b) (.bool b)
  | int (i : Int) : Dq K S H (.int i) (.int i)
  | str (x : Str) : Dq K S H (.str x) (.str x)
  | lst {a : Addr} {xs : List V} {ds : List PyData} : a ∉ S → SqL K H a xs → DqAll K S H xs ds → Dq K S H (.ref a) (.list ds)
  | tup {a : Addr} {xs : List V} {ds : List PyData} : SqT K H a xs → DqAll K S H xs ds → Dq K S H (.ref a) (.tuple ds)
inductive DqAll (K : PySem.W.Frag) (S : List Addr) (H : Hp) : List V → List PyData → Prop
  | nil : DqAll K S H [] []
  | cons {v : V} {vs : List V} {d : PyData} {ds : List PyData} : Dq K S H v d → DqAll K S H vs ds → DqAll K S H (v :: vs) (d :: ds)
end
section
variable {K : PySem.W.Frag} {S T : List Addr} {H H1 : Hp}
mutual
theorem Dq.x (e : Ext T H H1) (hT : ∀ x ∈ T, x ∈ S) (hs : ∀ b ∈ T, ∃ l, H b = some (.lst l)) : ∀ {v : V} {d : PyData}, Dq K S H v d → Dq K S H1 v d
  | _, _, .non => .non
  | _, _, .bl b => .bl b
  | _, _, .int i => .int i
  | _, _, .str z => .str z
  | _, _, .lst na h g => .lst na (lstX e h fun q => na (hT _ q)) (DqAll.x e hT hs g)
  | _, _, .tup h g => .tup (tupX e h hs) (DqAll.x e hT hs g)
theorem DqAll.x (e : Ext T H H1) (hT : ∀ x ∈ T, x ∈ S) (hs : ∀ b ∈ T, ∃ l, H b = some (.lst l)) : ∀ {vs : List V} {ds : List PyData}, DqAll K S H vs ds → DqAll K S H1 vs ds
  | _, _, .nil => .nil
  | _, _, .cons h g => .cons (Dq.x e hT hs h) (DqAll.x e hT hs g)
end
mutual
theorem Dq.dp : ∀ {v : V} {d : PyData}, Dq K S H v d → Dp K H v d
  | _, _, .non => .non
  | _, _, .bl b => .bl b
  | _, _, .int i => .int i
  | _, _, .str z => .str z
  | _, _, .lst _ h g => .lst h (DqAll.dp g)
  | _, _, .tup h g => .tup h (DqAll.dp g)
theorem DqAll.dp : ∀ {vs : List V} {ds : List PyData}, DqAll K S H vs ds → DpAll K H vs ds
  | _, _, .nil => .nil
  | _, _, .cons h g => .cons (Dq.dp h) (DqAll.dp g)
end
theorem Dq.x0 (e : Ext [] H H1) {v : V} {d : PyData} (h : Dq K S H v d) : Dq K S H1 v d := h.x e (fun _ z => nomatch z) (fun _ z => nomatch z)
theorem DqAll.x0 (e : Ext [] H H1) {v : List V} {d : List PyData} (h : DqAll K S H v d) : DqAll K S H1 v d := h.x e (fun _ z => nomatch z) (fun _ z => nomatch z)
theorem DqAll.app : ∀ {vs ws : List V} {ds es : List PyData}, DqAll K S H vs ds → DqAll K S H ws es → DqAll K S H (vs ++ ws) (ds ++ es)
  | _, _, _, _, .nil, g => g
  | _, _, _, _, .cons h r, g => .cons h (DqAll.app r g)
theorem DqAll.get : ∀ {vs : List V} {ds : List PyData} {i : Nat} {v : V}, DqAll K S H vs ds → vs[i]? = some v → ∃ d, ds[i]? = some d ∧ Dq K S H v d
  | _, _, 0, _, .cons h _, e => by cases e; exact ⟨_, rfl, h⟩
  | _, _, i + 1, _, .cons _ r, e => DqAll.get (i := i) r e
  | _, _, 0, _, .nil, e => by cases e
  | _, _, _ + 1, _, .nil, e => by cases e
end
end Yk

/-! Rational numbers: what the program's reckoning in lowest terms is worth. -/
namespace Yk
/-- the sum in lowest terms, as the program reckons it -/
theorem add_low (a b : Rat) : (a + b).num = (a.num * ((b.den / Nat.gcd a.den b.den : Nat) : Int) + b.num * ((a.den / Nat.gcd a.den b.den : Nat) : Int)) / ((Nat.gcd (a.num * ((b.den / Nat.gcd a.den b.den : Nat) : Int) + b.num * ((a.den / Nat.gcd a.den b.den : Nat) : Int)).natAbs (Nat.gcd a.den b.den) : Nat) : Int)
    ∧ (a + b).den = a.den / Nat.gcd a.den b.den * (b.den / Nat.gcd (a.num * ((b.den / Nat.gcd a.den b.den : Nat) : Int) + b.num * ((a.den / Nat.gcd a.den b.den : Nat) : Int)).natAbs (Nat.gcd a.den b.den)) := by
  have e : a + b = Rat.add a b := rfl
  rw [e]
  unfold Rat.add
  dsimp only
  by_cases hg : Nat.gcd a.den b.den = 1
  · rw [dif_pos hg]
    simp [hg]
  · rw [dif_neg hg]
    have hmn : ∀ (num : Int) (den g : Nat) (h1 : (g : Int) ∣ num) (h2 : g ∣ den) (h3) (h4), (Rat.maybeNormalize num den g h1 h2 h3 h4).num = num / (g : Int) ∧ (Rat.maybeNormalize num den g h1 h2 h3 h4).den = den / g := by
      intro num den g h1 h2 h3 h4
      unfold Rat.maybeNormalize
      split
      · rename_i q
        subst q
        simp
      · exact ⟨by simp [Int.divExact], by simp [Nat.divExact]⟩
    obtain ⟨e1, e2⟩ := hmn _ _ _ _ _ _ _
    refine ⟨e1, ?_⟩
    rw [e2]
    have hd : Nat.gcd (a.num * ((b.den / Nat.gcd a.den b.den : Nat) : Int) + b.num * ((a.den / Nat.gcd a.den b.den : Nat) : Int)).natAbs (Nat.gcd a.den b.den) ∣ b.den := Nat.dvd_trans (Nat.gcd_dvd_right _ _) (Nat.gcd_dvd_right _ _)
    exact Nat.mul_div_assoc _ hd
theorem mul_low (a b : Rat) : (a * b).num = a.num / ((Nat.gcd a.num.natAbs b.den : Nat) : Int) * (b.num / ((Nat.gcd b.num.natAbs a.den : Nat) : Int)) ∧ (a * b).den = a.den / Nat.gcd b.num.natAbs a.den * (b.den / Nat.gcd a.num.natAbs b.den) := by
  have e : a * b = Rat.mul a b := rfl
  rw [e]
  unfold Rat.mul
  simp [Int.divExact, Nat.divExact]
/-- size: both numbers below 2 ^ n -/
def Sz (n : Nat) (q : Rat) : Prop := q.num.natAbs < 2 ^ n ∧ q.den < 2 ^ n
theorem Sz.mono {m n : Nat} {q : Rat} (h : Sz m q) (e : m ≤ n) : Sz n q := ⟨Nat.lt_of_lt_of_le h.1 (Nat.pow_le_pow_right (by decide) e), Nat.lt_of_lt_of_le h.2 (Nat.pow_le_pow_right (by decide) e)⟩
theorem sz_mk {n : Nat} {q : Rat} {a : Int} {b : Nat} (hb : 0 < b) (e : q = mkRat a b) (h1 : a.natAbs < 2 ^ n) (h2 : b < 2 ^ n) : Sz n q := by
  subst e
  constructor
  · rw [Rat.num_mkRat, if_neg (by omega)]
    have hd : ((Nat.gcd b a.natAbs : Nat) : Int) ∣ a := Int.natAbs_dvd_natAbs.mp (by simpa using Nat.gcd_dvd_right b a.natAbs)
    rw [Int.natAbs_ediv_of_dvd hd]
    refine Nat.lt_of_le_of_lt (Nat.div_le_self _ _) h1
  · rw [Rat.den_mkRat, if_neg (by omega)]
    exact Nat.lt_of_le_of_lt (Nat.div_le_self _ _) h2
theorem sz_add {m n : Nat} {a b : Rat} (ha : Sz m a) (hb : Sz n b) : Sz (m + n + 1) (a + b) := by
  have h1 : (a.num * (b.den : Int)).natAbs < 2 ^ (m + n) := by
    rw [Int.natAbs_mul, Nat.pow_add]
    exact Nat.mul_lt_mul'' ha.1 (by simpa using hb.2)
  have h2 : (b.num * (a.den : Int)).natAbs < 2 ^ (m + n) := by
    rw [Int.natAbs_mul, Nat.pow_add, Nat.mul_comm]
    exact Nat.mul_lt_mul'' (by simpa using ha.2) hb.1
  have h3 : 2 ^ (m + n + 1) = 2 ^ (m + n) + 2 ^ (m + n) := by rw [Nat.pow_succ]; omega
  refine sz_mk (a := a.num * b.den + b.num * a.den) (b := a.den * b.den) (Nat.mul_pos a.den_pos b.den_pos) ?_ ?_ ?_
  · rw [Rat.add_def, Rat.normalize_eq_mkRat]
  · have := Int.natAbs_add_le (a.num * (b.den : Int)) (b.num * (a.den : Int))
    omega
  · have h4 : a.den * b.den < 2 ^ m * 2 ^ n := Nat.mul_lt_mul'' ha.2 hb.2
    rw [← Nat.pow_add] at h4
    omega
theorem sz_mul {m n : Nat} {a b : Rat} (ha : Sz m a) (hb : Sz n b) : Sz (m + n) (a * b) := by
  refine sz_mk (a := a.num * b.num) (b := a.den * b.den) (Nat.mul_pos a.den_pos b.den_pos) ?_ ?_ ?_
  · rw [Rat.mul_def, Rat.normalize_eq_mkRat]
  · rw [Int.natAbs_mul, Nat.pow_add]
    exact Nat.mul_lt_mul'' ha.1 hb.1
  · rw [Nat.pow_add]
    exact Nat.mul_lt_mul'' ha.2 hb.2
theorem sz_neg {n : Nat} {a : Rat} (h : Sz n a) : Sz n (-a) := by
  refine ⟨?_, ?_⟩
  · rw [Rat.neg_num, Int.natAbs_neg]; exact h.1
  · exact h.2
theorem sz_inv {n : Nat} {a : Rat} (h : Sz n a) (h0 : 0 < a) : Sz n a⁻¹ := by
  have h1 : 0 < a.num := by
    have := (Rat.lt_iff 0 a).mp h0
    simpa using this
  refine ⟨?_, ?_⟩
  · rw [Rat.num_inv, Int.sign_eq_one_of_pos h1, Int.one_mul]
    simpa using h.2
  · rw [Rat.den_inv, if_neg (by omega)]
    exact h.1
theorem num_pos' {q : Rat} (h : 0 < q) : 0 < q.num := by
  have := (Rat.lt_iff 0 q).mp h
  simpa using this
theorem num_nn {q : Rat} (h : 0 ≤ q) : 0 ≤ q.num := Rat.num_nonneg.mpr h
theorem inv_parts {q : Rat} (h : 0 < q) : q⁻¹.num = (q.den : Int) ∧ (q⁻¹.den : Int) = q.num := by
  have h1 := num_pos' h
  refine ⟨?_, ?_⟩
  · rw [Rat.num_inv, Int.sign_eq_one_of_pos h1, Int.one_mul]
  · rw [Rat.den_inv, if_neg (by omega)]
    omega
/-- two numbers in lowest terms -/
theorem mk_parts (a b : Nat) (hb : 0 < b) : (mkRat (a : Int) b).num = ((a / Nat.gcd a b : Nat) : Int) ∧ (mkRat (a : Int) b).den = b / Nat.gcd a b := by
  rw [Rat.num_mkRat, Rat.den_mkRat, if_neg (by omega), if_neg (by omega)]
  simp [Nat.gcd_comm]
theorem mk_nn (a b : Nat) : 0 ≤ mkRat (a : Int) b := by
  rcases Nat.eq_zero_or_pos b with h | h
  · subst h; simp
  · have e := (mk_parts a b h).1
    have : 0 ≤ (mkRat (a : Int) b).num := by rw [e]; exact Int.natCast_nonneg _
    exact Rat.num_nonneg.mp this
end Yk
namespace Yk
theorem add_int (p q : Rat) : (p + q).num = (p.num * ((q.den : Int) / ((Nat.gcd p.den q.den : Nat) : Int)) + q.num * ((p.den : Int) / ((Nat.gcd p.den q.den : Nat) : Int))) / ((Nat.gcd (p.num * ((q.den : Int) / ((Nat.gcd p.den q.den : Nat) : Int)) + q.num * ((p.den : Int) / ((Nat.gcd p.den q.den : Nat) : Int))).natAbs (Nat.gcd p.den q.den) : Nat) : Int)
    ∧ ((p + q).den : Int) = (p.den : Int) / ((Nat.gcd p.den q.den : Nat) : Int) * ((q.den : Int) / ((Nat.gcd (p.num * ((q.den : Int) / ((Nat.gcd p.den q.den : Nat) : Int)) + q.num * ((p.den : Int) / ((Nat.gcd p.den q.den : Nat) : Int))).natAbs (Nat.gcd p.den q.den) : Nat) : Int)) := by
  obtain ⟨h1, h2⟩ := add_low p q
  constructor
  · rw [h1]
    simp only [Int.natCast_ediv]
  · rw [h2]
    simp only [Int.natCast_ediv, Int.natCast_mul]
theorem mul_int' (p q : Rat) : (p * q).num = p.num / ((Nat.gcd p.num.natAbs q.den : Nat) : Int) * (q.num / ((Nat.gcd q.num.natAbs p.den : Nat) : Int)) ∧ ((p * q).den : Int) = (p.den : Int) / ((Nat.gcd q.num.natAbs p.den : Nat) : Int) * ((q.den : Int) / ((Nat.gcd p.num.natAbs q.den : Nat) : Int)) := by
  obtain ⟨h1, h2⟩ := mul_low p q
  refine ⟨h1, ?_⟩
  rw [h2]
  simp only [Int.natCast_ediv, Int.natCast_mul]
theorem abs_div_le (a b : Int) (hb : 0 < b) : (a / b).natAbs ≤ a.natAbs := by
  have h1 := Int.natAbs_ediv_le_natAbs a b
  exact h1
end Yk
namespace Yk
def cmpQ' (p q : Rat) : Int := if p < q then -1 else if q < p then 1 else 0
theorem cmp_add (p q r : Rat) : cmpQ' (p + r) (q + r) = cmpQ' p q := by
  unfold cmpQ'
  have h1 : p + r < q + r ↔ p < q := Rat.add_lt_add_right
  have h2 : q + r < p + r ↔ q < p := Rat.add_lt_add_right
  simp only [h1, h2]
theorem cmp_more (p r : Rat) (hr : 0 ≤ r) : cmpQ' (p + r) p = if 0 < r then 1 else 0 := by
  unfold cmpQ'
  by_cases h : 0 < r
  · rw [if_neg (by grind), if_pos (by grind), if_pos h]
  · rw [if_neg (by grind), if_neg (by grind), if_neg h]
theorem cmp_mul (p q r : Rat) (hr : 0 ≤ r) : cmpQ' (p * r) (r * q) = if 0 < r then cmpQ' p q else 0 := by
  rw [Rat.mul_comm r q]
  unfold cmpQ'
  by_cases h : 0 < r
  · have h1 : p * r < q * r ↔ p < q := Rat.mul_lt_mul_right h
    have h2 : q * r < p * r ↔ q < p := Rat.mul_lt_mul_right h
    simp only [h1, h2, if_pos h]
  · have e : r = 0 := by grind
    subst e
    simp
theorem add_nn {a b : Rat} (h1 : 0 ≤ a) (h2 : 0 ≤ b) : 0 ≤ a + b := Rat.add_nonneg h1 h2
theorem mul_nn {a b : Rat} (h1 : 0 ≤ a) (h2 : 0 ≤ b) : 0 ≤ a * b := Rat.mul_nonneg h1 h2
theorem r_sub1 (p q : Rat) : p + q - q = p := by grind
theorem r_sub2 (p q r : Rat) : p + q + r - (r + q) = p := by grind
theorem r_sub3 (p : Rat) : p - p = 0 := by grind
theorem r_div1 {p q : Rat} (h : 0 < q) : p * q / q = p := by grind
theorem r_div2 {p q : Rat} (h : 0 < q) : p / q * q = p := by grind
theorem r_div3 {q : Rat} (h : 0 < q) : q / q = 1 := by grind
theorem r_dist (p q r : Rat) : p * q + p * r = p * (q + r) := by grind
theorem le1 {p q : Rat} (h : 0 ≤ p) : q ≤ p + q := by grind
theorem le2 {p q r : Rat} (h : 0 ≤ p) : r + q ≤ p + q + r := by grind
theorem num_pos_iff {r : Rat} (h : 0 ≤ r) : 0 < r.num ↔ 0 < r := by
  constructor
  · intro h1
    exact (Rat.lt_iff 0 r).mpr (by simpa using h1)
  · exact num_pos'
theorem sz_div {m n : Nat} {a b : Rat} (ha : Sz m a) (hb : Sz n b) (h : 0 < b) : Sz (m + n) (a / b) := by
  rw [Rat.div_def]
  exact sz_mul ha (sz_inv hb h)
end Yk

set_option maxHeartbeats 1000000
namespace Yk
open PySem PySem.Spec PyProof.Rows L2
def top (i : Nat) : Stmt := PySem.Challenge.pw_bandheld_k01_shares_and_cuts.main.body.getD i (.Pass ⟨0, 0, 0, 0⟩)
structure Bt (mg : Str → Option Value) : Prop where
  int : mg "int" = none
  len : mg "len" = none
  list : mg "list" = none
  tuple : mg "tuple" = none
  str : mg "str" = none
  bool : mg "bool" = none
  max : mg "max" = none
  min : mg "min" = none
  all : mg "all" = none
  any : mg "any" = none
  sum : mg "sum" = none
  isinstance : mg "isinstance" = none
  zip : mg "zip" = none
  range : mg "range" = none
  divmod : mg "divmod" = none
structure Bg (mg : Str → Option Value) : Prop extends Bt mg where
  gcd : mg "gcd" = some (.builtin "math.gcd")
/-- an amount: its two numbers in a tuple -/
def Am (K : PySem.W.Frag) (H : Hp) (v : V) (q : Rat) : Prop := ∃ a, v = .ref a ∧ SqT K H a [.int q.num, .int (q.den : Int)]
theorem Am.x {S : List Addr} {K : PySem.W.Frag} {H H1 : Hp} {v : V} {q : Rat} (e : Ext S H H1) (h : Am K H v q) (hs : ∀ b ∈ S, ∃ l, H b = some (.lst l)) : Am K H1 v q := by
  obtain ⟨a, rfl, h⟩ := h
  exact ⟨a, rfl, tupX e h hs⟩
theorem Am.x0 {K : PySem.W.Frag} {H H1 : Hp} {v : V} {q : Rat} (e : Ext [] H H1) (h : Am K H v q) : Am K H1 v q := h.x e fun _ z => nomatch z
/-- what an amount's promise hands back -/
def RetAm (K : PySem.W.Frag) (H : Hp) (Q : VK) (q : Rat) : Prop := ∀ v H', Ext [] H H' → Am K H' v q → Q v H'
def spAdded (K : PySem.W.Frag) : Sp := fun vs H Q _ => ∃ v1 v2 p q, vs = [v1, v2] ∧ Am K H v1 p ∧ Am K H v2 q ∧ Sz 4000 p ∧ Sz 4000 q ∧ RetAm K H Q (p + q)
end Yk
namespace Yk
open PySem PySem.Spec PyProof.Rows L2
theorem cdiv {n : Nat} {i : Int} {b : Nat} (h0 : 0 < b) (hb : b < 2 ^ n) (hn : 0 < n) (h9 : n ≤ 9000) : CDivW i (b : Int) := wide_div (by omega) (by simpa using hb) hn h9
theorem cmul {m n : Nat} {i j : Int} (hi : i.natAbs < 2 ^ m) (hj : j.natAbs < 2 ^ n) (h0 : 0 < m) (h1 : 0 < n) (h : m + n ≤ 1000000) : CMulW i j := wide_mul hi hj h0 h1 h
theorem dlt {n : Nat} {a b : Int} (h : a.natAbs < 2 ^ n) : (a / b).natAbs < 2 ^ n := Nat.lt_of_le_of_lt (Int.natAbs_ediv_le_natAbs a b) h
end Yk
namespace Yk
open PySem PySem.Spec PyProof.Rows L2
/-- a row of amounts -/
def Ams (K : PySem.W.Frag) (H : Hp) (vs : List V) (qs : List Rat) : Prop := vs.length = qs.length ∧ ∀ (i : Nat) (v : V) (q : Rat), vs[i]? = some v → qs[i]? = some q → Am K H v q
theorem Ams.x {S : List Addr} {K : PySem.W.Frag} {H H1 : Hp} {vs : List V} {qs : List Rat} (e : Ext S H H1) (h : Ams K H vs qs) (hs : ∀ b ∈ S, ∃ l, H b = some (.lst l)) : Ams K H1 vs qs := ⟨h.1, fun i v q a b => (h.2 i v q a b).x e hs⟩
theorem Ams.x0 {K : PySem.W.Frag} {H H1 : Hp} {vs : List V} {qs : List Rat} (e : Ext [] H H1) (h : Ams K H vs qs) : Ams K H1 vs qs := h.x e fun _ z => nomatch z
theorem Ams.at_ {K : PySem.W.Frag} {H : Hp} {vs : List V} {qs : List Rat} (h : Ams K H vs qs) {i : Nat} {v : V} (hv : vs[i]? = some v) : ∃ q, qs[i]? = some q ∧ Am K H v q := by
  have hi : i < qs.length := by rw [← h.1]; exact (List.getElem?_eq_some_iff.mp hv).1
  exact ⟨qs[i], List.getElem?_eq_getElem hi, h.2 i v _ hv (List.getElem?_eq_getElem hi)⟩
theorem Ams.nil {K : PySem.W.Frag} {H : Hp} : Ams K H [] [] := ⟨rfl, fun i v q h => by simp at h⟩
theorem Ams.cons {K : PySem.W.Frag} {H : Hp} {v : V} {q : Rat} {vs : List V} {qs : List Rat} (h : Am K H v q) (r : Ams K H vs qs) : Ams K H (v :: vs) (q :: qs) := by
  refine ⟨by simp [r.1], fun i w u a b => ?_⟩
  cases i with
  | zero =>
    simp at a b
    subst a b
    exact h
  | succ i =>
    simp at a b
    exact r.2 i w u a b
/-- the smallest, the largest of a row -/
def minQ (p : Rat) (qs : List Rat) : Rat := qs.foldl (fun m q => if q < m then q else m) p
def maxQ (p : Rat) (qs : List Rat) : Rat := qs.foldl (fun m q => if m < q then q else m) p
theorem fold_take {α : Type} {f : α → Rat → α} {z : α} {qs : List Rat} {i : Nat} {q : Rat} (h : qs[i]? = some q) : (qs.take (i + 1)).foldl f z = f ((qs.take i).foldl f z) q := by
  obtain ⟨hl, e⟩ := List.getElem?_eq_some_iff.mp h
  rw [← List.take_append_getElem hl, List.foldl_append, e]
  rfl
theorem minQ_mem {m : Nat} {p : Rat} : ∀ {qs : List Rat}, Sz m p → (∀ q ∈ qs, Sz m q) → Sz m (minQ p qs)
  | [], h, _ => h
  | q :: r, h, hq => by
    show Sz m (minQ (if q < p then q else p) r)
    refine minQ_mem ?_ fun x hx => hq x (List.mem_cons_of_mem _ hx)
    split
    · exact hq q List.mem_cons_self
    · exact h
theorem maxQ_mem {m : Nat} {p : Rat} : ∀ {qs : List Rat}, Sz m p → (∀ q ∈ qs, Sz m q) → Sz m (maxQ p qs)
  | [], h, _ => h
  | q :: r, h, hq => by
    show Sz m (maxQ (if p < q then q else p) r)
    refine maxQ_mem ?_ fun x hx => hq x (List.mem_cons_of_mem _ hx)
    split
    · exact hq q List.mem_cons_self
    · exact h
end Yk
namespace Yk
open PySem PySem.Spec PyProof.Rows L2
/-- what five numbers the bag may hold -/
def Bag5 (ns : List Int) (it : Addr) (l : List V) : Prop := ∃ (pos : Nat) (rest seed cnt : Int), l = [.ref it, .int (pos : Int), .int rest, .int seed, .int cnt] ∧ pos ≤ ns.length ∧ 0 ≤ rest ∧ 0 ≤ seed ∧ seed < 2147483629
structure Bag where
  a : Addr
  it : Addr
  ns : List Int
structure BagAt (K : PySem.W.Frag) (H : Hp) (b : Bag) : Prop where
  ex : ∃ l : List V, H b.a = some (.lst l) ∧ SqL K H b.it (b.ns.map V.int) ∧ b.ns.length ≤ 63 ∧ Bag5 b.ns b.it l
theorem BagAt.lst {K : PySem.W.Frag} {H : Hp} {b : Bag} (h : BagAt K H b) : ∃ l, H b.a = some (.lst l) := by
  obtain ⟨l, h1, _⟩ := h.ex
  exact ⟨l, h1⟩
theorem BagAt.x0 {K : PySem.W.Frag} {H H1 : Hp} {b : Bag} (h : BagAt K H b) (e : Ext [] H H1) : BagAt K H1 b := by
  obtain ⟨l, h1, h2, h3, h4⟩ := h.ex
  exact ⟨l, e _ _ h1 (fun z => nomatch z), lst0 e h2, h3, h4⟩
theorem BagAt.new {K : PySem.W.Frag} {H : Hp} {b : Bag} {p : Addr} {o : HO} (h : BagAt K H b) (hp : H p = none) : BagAt K (upd H p o) b := h.x0 (Ext.refl.new hp)
theorem BagAt.ne {K : PySem.W.Frag} {H : Hp} {b : Bag} {p : Addr} (h : BagAt K H b) (hp : H p = none) : b.a ≠ p := by
  obtain ⟨l, q⟩ := h.lst
  exact ne_of_none q hp
theorem BagAt.ne' {K : PySem.W.Frag} {H : Hp} {b : Bag} {p : Addr} (hp : H p = none) (h : BagAt K H b) : b.a ≠ p := h.ne hp
/-- what was new to a heap with the bag may change later -/
theorem BagAt.own {K : PySem.W.Frag} {H0 H : Hp} {b : Bag} {p : Addr} {o : HO} (h0 : BagAt K H0 b) (hp : H0 p = none) (h : BagAt K H b) : BagAt K (upd H p o) b := by
  obtain ⟨l0, a0, a1, _, _⟩ := h0.ex
  obtain ⟨l, h1, h2, h3, h4⟩ := h.ex
  refine ⟨l, by rw [upd_ne (ne_of_none a0 hp)]; exact h1, ?_, h3, h4⟩
  rcases a1 with a1 | a1
  · have hne : b.it ≠ p := by
      rcases a1 with a1 | ⟨u, a1⟩
      · exact ne_of_none a1 hp
      · exact ne_of_none a1 hp
    rcases h2 with (h2 | ⟨u, h2⟩) | h2
    · exact .inl (.inl (by rw [upd_ne hne]; exact h2))
    · exact .inl (.inr ⟨u, by rw [upd_ne hne]; exact h2⟩)
    · exact .inr h2
  · exact .inr a1
theorem tupB {K : PySem.W.Frag} {H H1 : Hp} {a : Addr} {b : Bag} {xs : List V} (hb : BagAt K H b) (e : Ext [b.a] H H1) (h : SqT K H a xs) : SqT K H1 a xs := tupX e h fun c hc => by rw [List.mem_singleton.mp hc]; exact hb.lst
theorem Am.b {K : PySem.W.Frag} {H H1 : Hp} {b : Bag} {v : V} {q : Rat} (hb : BagAt K H b) (e : Ext [b.a] H H1) (h : Am K H v q) : Am K H1 v q := h.x e fun c hc => by rw [List.mem_singleton.mp hc]; exact hb.lst
theorem Am.b' {K : PySem.W.Frag} {H H1 : Hp} {b : Bag} {v : V} {q : Rat} (e : Ext [b.a] H H1) (hb : BagAt K H b) (h : Am K H v q) : Am K H1 v q := h.b hb e
theorem Ams.b {K : PySem.W.Frag} {H H1 : Hp} {b : Bag} {v : List V} {q : List Rat} (hb : BagAt K H b) (e : Ext [b.a] H H1) (h : Ams K H v q) : Ams K H1 v q := h.x e fun c hc => by rw [List.mem_singleton.mp hc]; exact hb.lst
theorem Am.n {K : PySem.W.Frag} {H : Hp} {p : Addr} {o : HO} {v : V} {q : Rat} (h : Am K H v q) (hp : H p = none) : Am K (upd H p o) v q := h.x0 (Ext.refl.new hp)
theorem am_lit {K : PySem.W.Frag} {H : Hp} {a : Addr} {n : Int} {d : Nat} (hd : d ≠ 0) (hc : n.natAbs.Coprime d) (h : SqT K H a [.int n, .int (d : Int)]) : Am K H (.ref a) ⟨n, d, hd, hc⟩ := ⟨a, rfl, h⟩
end Yk

open PySem PySem.Spec PyProof.Rows L2 Yk
local macro_rules | `(tactic| walk_at "sq") => `(tactic| first
  | assumption
  | exact tupS
  | exact lstS
  | ((refine' tupN ?h1 (by assumption)); (case h1 => walk_at "sq"))
  | ((refine' lstN ?h1 (by assumption)); (case h1 => walk_at "sq"))
  | ((refine' tup0 (by assumption) ?h1); (case h1 => walk_at "sq"))
  | ((refine' lst0 (by assumption) ?h1); (case h1 => walk_at "sq")))
local macro_rules | `(tactic| walk_at "side") => `(tactic| first | assumption | decide | omega | exact Or.inr ⟨by decide, by decide⟩ | exact ⟨by decide, by decide, by decide⟩ | exact ⟨by decide, by decide +kernel⟩)
local macro_rules | `(tactic| walk_at "ty") => `(tactic| first
  | exact TyX.base TyOf.non
  | exact TyX.base (TyOf.bl _)
  | exact TyX.base (TyOf.int _)
  | exact TyX.base (TyOf.str _)
  | ((refine' tyT ?h1); (case h1 => walk_at "sq"))
  | ((refine' tyL ?h1); (case h1 => walk_at "sq")))
local macro_rules | `(tactic| walk_at "st") => `(tactic| first
  | with_reducible refine' r_seq ?_
  | with_reducible refine' r_asg ?_
  | with_reducible refine' r_ret ?_
  | with_reducible refine' r_drop ?_
  | with_reducible refine' r_ifS ?_
  | with_reducible refine' r_par ?_
  | with_reducible refine' r_name ?_
  | with_reducible refine' r_gCons ?_
  | with_reducible refine' r_gNil ?_
  | with_reducible refine' r_gSub ?_
  | ((with_reducible refine' r_gTup ?h1 ?h2 ?h3); (case h1 => walk_at "sq"); (case h2 => rfl))
  | with_reducible refine' r_op ?_
  | with_reducible refine' r_un ?_
  | with_reducible refine' r_c ?_
  | ((with_reducible refine' r_var ?h1 ?h2); (case h1 => rfl))
  | with_reducible refine' r_I0 ?_
  | with_reducible refine' r_U ?_
  | ((with_reducible refine' r_I ?h1 ?h2); (case h1 => walk_at "side"))
  | ((with_reducible refine' r_ixT ?h1 ?h2 ?h3); (case h1 => walk_at "sq"); (case h2 => rfl))
  | ((with_reducible refine' r_ixL ?h1 ?h2 ?h3); (case h1 => walk_at "sq"); (case h2 => rfl))
  | with_reducible refine' r_cons ?_
  | with_reducible refine' r_nil ?_
  | with_reducible refine' r_tup ?_
  | with_reducible refine' r_lst ?_
  | with_reducible refine' r_CB ?_
  | with_reducible refine' r_R ?_
  | with_reducible refine' r_R1 ?_
  | with_reducible refine' r_star ?_
  | with_reducible refine' r_RS ?_
  | with_reducible refine' r_RX ?_
  | with_reducible refine' r_gcd ?_
  | ((with_reducible refine' r_aug ?h1 ?h2); (case h1 => rfl))
  | with_reducible refine' r_ipI ?_
  | ((with_reducible refine' r_app ?h1 ?h2 ?h3); (case h1 => assumption); (case h2 => first | assumption | omega))
  | with_reducible refine' r_test ?_
  | with_reducible refine' r_B ?_
  | with_reducible refine' r_bl ?_
  | with_reducible refine' r_if ?_
  | with_reducible refine' r_and ?_
  | with_reducible refine' r_or ?_
  | with_reducible refine' r_not ?_
  | with_reducible refine' r_next ?_
  | with_reducible refine' r_int ?_
  | with_reducible refine' r_exI ?_
  | with_reducible refine' r_andV ?_
  | with_reducible refine' r_orV ?_
  | with_reducible refine' r_notV ?_
  | ((with_reducible refine' r_isi ?h1 ?h2 ?h3); (case h1 => walk_at "ty"); (case h2 => rfl))
  | ((with_reducible refine' r_isiT ?h1 ?h2 ?h3 ?h4); (case h1 => exact upd_same); (case h2 => walk_at "ty"); (case h3 => rfl))
  | with_reducible refine' And.intro (rfl : V.non = V.non) ?_
  | with_reducible refine' r_BM ?_
  | with_reducible refine' r_BM0 ?_
  | with_reducible refine' r_lc ?_
  | with_reducible refine' r_yes ?_
  | with_reducible refine' r_tt ?_
  | with_reducible refine' r_iRng1 ?_
  | with_reducible refine' r_iList ?_
  | with_reducible refine' r_iTup ?_
  | with_reducible refine' r_iZip ?_
  | ((with_reducible refine' r_gUnl ?h1 ?h2 ?h3); (case h1 => walk_at "sq"); (case h2 => rfl))
  | with_reducible refine' r_slL ?_
  | with_reducible refine' r_noP ?_
  | with_reducible refine' r_part ?_
  | ((with_reducible refine' r_len ?h1 ?h2); (case h1 => (first | (refine Or.inl ?_; walk_at "sq") | (refine Or.inr ?_; walk_at "sq"))))
  | ((with_reducible refine' r_eq ?h1 ?h2); (case h1 => rfl))
  | ((with_reducible refine' r_ne ?h1 ?h2); (case h1 => rfl))
  | ((with_reducible refine' And.intro ?h1 ?h2); (case h1 => (simp only [List.length_cons, List.length_nil, List.length_map]; decide)); (intro np hnp))
  | ((with_reducible refine' Exists.intro _ (Exists.intro _ (And.intro ?h1 ?h2))); (case h1 => (show ([_, _] : List V) = [_, _]; rfl)))
  | ((with_reducible refine' Exists.intro _ (And.intro ?h1 ?h2)); (case h1 => (first | (show ([_] : List V) = arr _ _ _ _ _; rfl) | (show ([_, _] : List V) = arr _ _ _ _ _; rfl) | (show ([_, _, _] : List V) = arr _ _ _ _ _; rfl)))))
local macro_rules | `(tactic| walk_at "go") => `(tactic| repeat walk_at "st")
local macro_rules | `(tactic| walk_at "bag") => `(tactic| first
  | assumption
  | (refine BagAt.new ?_ (by assumption); walk_at "bag")
  | (refine BagAt.x0 ?_ (by assumption); walk_at "bag"))
local macro_rules | `(tactic| walk_at "ext") => `(tactic| first
  | assumption
  | exact Ext.refl
  | (refine Ext.new ?_ (by assumption); walk_at "ext")
  | (refine Ext.trans ?_ (by assumption); walk_at "ext"))
local macro_rules | `(tactic| walk_at "ams") => `(tactic| first
  | exact Ams.nil
  | (refine Ams.cons ?_ ?_; (first | assumption | (refine am_lit _ _ ?_; walk_at "sq")); walk_at "ams"))
local macro_rules | `(tactic| walk_at "br") => `(tactic| first
  | ((with_reducible refine' r_true ?h1 ?h2); (case h1 => rfl))
  | ((with_reducible refine' r_false ?h1 ?h2); (case h1 => rfl)))
local macro_rules | `(tactic| walk_at "run") => `(tactic| repeat (first | walk_at "st" | walk_at "br"))
local macro_rules | `(tactic| walk_at "am") => `(tactic| first
  | assumption
  | (refine Am.x0 (by assumption) ?_; walk_at "am")
  | (refine Am.n ?_ (by assumption); walk_at "am")
  | (refine Am.b' (by assumption) (by assumption) ?_; walk_at "am"))
set_option maxHeartbeats 1000000
/-! Texts of numbers. -/
namespace Yk
open PySem PySem.Spec PyProof.Rows L2 TL
/-- the text of a number -/
def nt (n : Nat) : Str := Str.ofString (toString ((n : Nat) : Int))
theorem tl_nt (n : Nat) : tl (nt n) = numL n := tl_num n
theorem cps_nt (n : Nat) : (nt n).cps.toList = numL n := tl_nt n
theorem str_eq {a b : Str} (h : tl a = tl b) : a = b := Str.ext' (Array.toList_inj.mp h)
theorem len_nt (n : Nat) : (nt n).length = (numL n).length := by rw [← tl_nt]; exact (Array.length_toList).symm
theorem numL_le {n k : Nat} (hk : 0 < k) (h : n < 10 ^ k) : (numL n).length ≤ k := by
  unfold numL
  rw [List.length_map]
  exact (Nat.length_toDigits_le_iff (by decide) hk).mpr h
theorem numL_ne (n : Nat) : numL n ≠ [] := by
  unfold numL
  intro e
  have h := List.map_eq_nil_iff.mp e
  have h2 : 0 < (Nat.toDigits 10 n).length := by
    by_cases hn : n < 10
    · rw [Nat.toDigits_of_lt_base hn]; simp
    · rw [Nat.toDigits_of_base_le (by decide) (by omega)]; simp
  rw [h] at h2
  exact absurd h2 (by decide)
theorem numL_snoc {n d : Nat} (hn : 0 < n) (hd : d < 10) : numL (n * 10 + d) = numL n ++ numL d := by
  unfold numL
  rw [← List.map_append, Nat.toDigits_append_toDigits (by decide) hn hd, Nat.mul_comm]
theorem numL_digit {d : Nat} (hd : d < 10) : numL d = [48 + d] := numL_lt hd
/-- filled up with noughts -/
def padL (k n : Nat) : List Nat := List.replicate (k - (numL n).length) 48 ++ numL n
theorem numL_split : ∀ (k : Nat) (q r : Nat), 0 < q → r < 10 ^ (k + 1) → numL (q * 10 ^ (k + 1) + r) = numL q ++ padL (k + 1) r
  | 0, q, r, hq, hr => by
    have hr' : r < 10 := by simpa using hr
    unfold padL
    rw [numL_digit hr', show 10 ^ (0 + 1) = 10 from rfl, numL_snoc hq hr', numL_digit hr']
    rfl
  | k + 1, q, r, hq, hr => by
    have h1 : r / 10 < 10 ^ (k + 1) := Nat.div_lt_of_lt_mul (by rw [Nat.pow_succ] at hr; omega)
    have hd : r % 10 < 10 := Nat.mod_lt _ (by decide)
    have e : q * 10 ^ (k + 1 + 1) + r = (q * 10 ^ (k + 1) + r / 10) * 10 + r % 10 := by
      rw [Nat.pow_succ 10 (k + 1), ← Nat.mul_assoc, Nat.add_mul, Nat.add_assoc, Nat.div_add_mod' r 10]
    have hp : 0 < q * 10 ^ (k + 1) + r / 10 := by
      have : 0 < q * 10 ^ (k + 1) := Nat.mul_pos hq (Nat.pow_pos (by decide))
      omega
    rw [e, numL_snoc hp hd, numL_split k q (r / 10) hq h1, List.append_assoc]
    congr 1
    unfold padL
    by_cases hz : r / 10 = 0
    · have er : r = r % 10 := by omega
      rw [hz, numL_digit (show 0 < 10 by decide), numL_digit hd]
      have e2 : numL r = [48 + r % 10] := by rw [er]; simpa using numL_digit hd
      rw [e2]
      have h3 : List.replicate (k + 1 - [48 + 0].length) 48 ++ [48 + 0] = List.replicate (k + 1) 48 := by
        show List.replicate (k + 1 - 1) 48 ++ [48] = _
        rw [show k + 1 - 1 = k by omega, ← List.replicate_succ']
      rw [h3]
      show List.replicate (k + 1) 48 ++ _ = List.replicate (k + 1 + 1 - 1) 48 ++ _
      rw [show k + 1 + 1 - 1 = k + 1 by omega]
    · have e2 : numL r = numL (r / 10) ++ numL (r % 10) := by
        rw [← numL_snoc (by omega) hd, Nat.div_add_mod' r 10]
      rw [e2, List.length_append, numL_digit hd, List.append_assoc]
      rw [show k + 1 + 1 - ((numL (r / 10)).length + [48 + r % 10].length) = k + 1 - (numL (r / 10)).length by show k + 1 + 1 - (_ + 1) = _; omega]
theorem numL_range {n c : Nat} (h : c ∈ numL n) : 48 ≤ c ∧ c ≤ 57 := by
  unfold numL at h
  obtain ⟨ch, hch, e⟩ := List.mem_map.mp h
  have r := digit_range (Nat.isDigit_of_mem_toDigits (by decide) (by decide) hch)
  rw [← e]
  exact r
theorem zfill_tl {n k : Nat} (h : (numL n).length ≤ k) : tl (Txt.zfill (nt n) (k : Int)) = padL k n := by
  unfold Txt.zfill
  rw [len_nt]
  split
  · rename_i hk
    have e : (numL n).length = k := by omega
    unfold padL
    rw [e, Nat.sub_self, tl_nt]
    rfl
  · unfold zfilled
    have hc : ∀ c, (nt n).cps[0]? = some c → c ≠ 43 ∧ c ≠ 45 := by
      intro c hc
      have h1 : c ∈ numL n := by
        rw [← tl_nt]
        rw [← Array.getElem?_toList] at hc
        exact List.mem_of_getElem? hc
      have := numL_range h1
      omega
    have hp : tl (Builtin.Str.padded (nt n) (Int.toNat (k : Int) - (numL n).length) 0 48) = padL k n := by
      unfold Builtin.Str.padded padL
      show (Array.replicate (k - (numL n).length) 48 ++ (nt n).cps ++ Array.replicate 0 48).toList = _
      rw [Array.toList_append, Array.toList_append, cps_nt]
      simp
    split
    · rename_i e
      exact absurd rfl (hc _ e).1
    · rename_i e
      exact absurd rfl (hc _ e).2
    · exact hp
theorem read_nt {n : Nat} (h : (nt n).length ≤ 4300) : PySem.intText? (nt n) = some (n : Int) := by
  have hd : PySem.NumText.AllDigits (nt n).cps.toList := by
    intro c hc
    rw [cps_nt] at hc
    exact numL_range hc
  have hne : (nt n).cps.toList ≠ [] := by
    rw [cps_nt]
    exact numL_ne n
  have e := PySem.intText_digits hd hne h
  rw [cps_nt] at e
  rw [e]
  unfold numL
  rw [PySem.W.KIN.val_back]
theorem ascii_nt (n : Nat) : Txt.isascii (nt n) = true := by
  unfold Txt.isascii
  rw [← Array.all_toList, List.all_eq_true]
  intro c hc
  rw [cps_nt] at hc
  have := numL_range hc
  exact decide_eq_true (by omega)
theorem uni_digit : ∀ d : Nat, d < 10 → Unicode.isDigit (48 + d) = true := by decide +kernel
theorem digit_nt (n : Nat) : Txt.isdigit (nt n) = true := by
  unfold Txt.isdigit
  rw [Bool.and_eq_true]
  refine ⟨decide_eq_true ?_, ?_⟩
  · rw [len_nt]
    exact List.length_pos_iff.mpr (numL_ne n)
  · rw [← Array.all_toList, List.all_eq_true]
    intro c hc
    rw [cps_nt] at hc
    have h := numL_range hc
    have := uni_digit (c - 48) (by omega)
    rw [show 48 + (c - 48) = c by omega] at this
    exact this
theorem numL_head : ∀ n : Nat, 0 < n → ∃ c r, numL n = c :: r ∧ c ≠ 48 := by
  intro n
  induction n using Nat.strongRecOn with
  | _ n ih =>
    intro hn
    by_cases h : n < 10
    · exact ⟨48 + n, [], numL_digit h, by omega⟩
    · obtain ⟨c, r, e, hc⟩ := ih (n / 10) (by omega) (by omega)
      refine ⟨c, r ++ numL (n % 10), ?_, hc⟩
      have h2 := numL_snoc (n := n / 10) (d := n % 10) (by omega) (Nat.mod_lt _ (by decide))
      rw [show n / 10 * 10 + n % 10 = n by omega, e] at h2
      exact h2
theorem nt_zero : nt 0 = Str.ofString "0" := by decide +kernel
theorem starts_nt {n : Nat} (hn : 0 < n) : Txt.startswith (nt n) (Str.ofString "0") = false := by
  unfold Txt.startswith
  obtain ⟨c, r, e, hc⟩ := numL_head n hn
  rw [Bool.and_eq_false_iff]
  right
  unfold Builtin.Str.subAt
  rw [show (Str.ofString "0") = ⟨#[48]⟩ by decide +kernel]
  rw [beq_eq_false_iff_ne]
  intro z
  have z2 := congrArg Array.toList z
  rw [Array.toList_extract] at z2
  rw [cps_nt, e] at z2
  simp at z2
  have z3 : List.take 1 (c :: r) = [48] := z2
  simp at z3
  exact hc z3
/-- the text of an amount -/
def amTxt (q : Rat) : Str := if q.den = 1 then nt q.num.toNat else nt q.num.toNat ++ Str.ofString "/" ++ nt q.den
theorem slash_nt (n : Nat) : 47 ∉ tl (nt n) := fun h => by rw [tl_nt] at h; have := numL_range h; omega
theorem slash : Str.ofString "/" = ⟨#[47]⟩ := by decide +kernel
theorem part_nt (n : Nat) : Txt.partition (nt n) (Str.ofString "/") = (nt n, Str.empty, Str.empty) := partition_none (y := Str.ofString "/") (s := 47) (S := []) (by rw [slash]) (slash_nt n)
theorem part_am (n d : Nat) : Txt.partition (nt n ++ Str.ofString "/" ++ nt d) (Str.ofString "/") = (nt n, Str.ofString "/", nt d) := partition_app (y := Str.ofString "/") (s := 47) (S := []) (by rw [slash]) (slash_nt n)
theorem joinL_nil : ∀ l : List (List Nat), joinL [] l = l.flatten
  | [] => rfl
  | [p] => by simp [joinL]
  | p :: q :: r => by
    show p ++ ([] ++ joinL [] (q :: r)) = _
    rw [joinL_nil (q :: r)]
    simp
theorem tl_join0 (parts : List Str) : tl (Txt.join Str.empty parts) = (parts.map tl).flatten := by
  rw [join_eq, tl_join]
  exact joinL_nil _
theorem len_sum : ∀ parts : List Str, (parts.map (·.length)).sum = (parts.map tl).flatten.length
  | [] => rfl
  | p :: r => by
    show p.length + (r.map (·.length)).sum = (tl p ++ (r.map tl).flatten).length
    rw [List.length_append, len_sum r]
    congr 1
theorem bits_lt {n b : Nat} (h : n < 2 ^ b) : n < 10 ^ b := Nat.lt_of_lt_of_le h (Nat.pow_le_pow_left (by decide) b)
theorem log_lt {n b : Nat} (hb : 0 < b) (h : n < 2 ^ b) : n.log2 < b := PySem.Flt.log2_lt_of hb h
end Yk

set_option maxHeartbeats 1000000
namespace Yk
open PySem PySem.Spec PyProof.Rows L2

section
variable {P : Program} {w : World} {K : PySem.W.Frag} {mg : Str → Option Value} {base : Heap} {f : Addr} {fd : FuncData}
abbrev s_added : Stmt := top 7
theorem c_added : FnScope ["first", "second", "top", "bottom", "other_top", "other_bottom", "common", "rest", "new_top", "shared"] ["first", "second"] (defScope s_added) := ⟨rfl, rfl, rfl, by decide +kernel, rfl, by decide +kernel, by decide +kernel⟩
theorem f_added (F : FunD K "_added" "_added" (defArgs s_added) (defBody s_added) (defScope s_added) [] [] f fd) (hm : mg "_added" = some (.ref f)) (T : Bg mg) : Fn P w K mg base 1 "_added" (spAdded K) := by
  refine fn_def F hm c_added (fun vs H Q E h => ?_) (fun _ _ _ _ _ _ us hl => match us, hl with | [_, _], _ => rfl) (fun cdv A outer s H vs Q E hr h => ?_)
  · obtain ⟨v1, v2, p, q, rfl, _⟩ := h
    rfl
  · obtain ⟨v1, v2, p, q, rfl, ⟨a1, rfl, h1⟩, ⟨a2, rfl, h2⟩, z1, z2, k⟩ := h
    have nd := c_added.nd
    refine ⟨_, (pss_cons (ps_asg (pv 0) (pg_tup rfl (pgs_cons (pg_name (i := 2) nd rfl (by first | exact Or.inl rfl | exact Or.inr rfl)) (pgs_cons (pg_name (i := 3) nd rfl (by first | exact Or.inl rfl | exact Or.inr rfl)) pgs_nil))))
      (pss_cons (ps_asg (pv 1) (pg_tup rfl (pgs_cons (pg_name (i := 4) nd rfl (by first | exact Or.inl rfl | exact Or.inr rfl)) (pgs_cons (pg_name (i := 5) nd rfl (by first | exact Or.inl rfl | exact Or.inr rfl)) pgs_nil))))
      (pss_cons (ps_set (i := 6) nd rfl (by first | exact Or.inl rfl | exact Or.inr rfl) (pe_callBfun cr_gcd (by rfl) T.gcd (pa_cons (pv 3) (pa_cons (pv 5) pa_nil))))
      (pss_cons (ps_set (i := 7) nd rfl (by first | exact Or.inl rfl | exact Or.inr rfl) (pe_op op_fdivW (pv 3) (pv 6)))
      (pss_cons (ps_set (i := 8) nd rfl (by first | exact Or.inl rfl | exact Or.inr rfl) (pe_op op_add (pe_op op_mulW (pv 2) (pe_op op_fdivW (pv 5) (pv 6))) (pe_op op_mulW (pv 4) (pv 7))))
      (pss_cons (ps_set (i := 9) nd rfl (by first | exact Or.inl rfl | exact Or.inr rfl) (pe_callBfun cr_gcd (by rfl) T.gcd (pa_cons (pv 8) (pa_cons (pv 6) pa_nil))))
      (pss_one (ps_ret (pe_tup (pa_cons (pe_op op_fdivW (pv 8) (pv 9)) (pa_cons (pe_op op_mulW (pv 7) (pe_op op_fdivW (pv 5) (pv 9))) pa_nil))))))))))), ?_⟩
    show (_ : TS) _ [some _, some _, none, none, none, none, none, none, none, none] _
    try dsimp only [cxOf, Cx.nox]
    have g0 : 0 < Nat.gcd p.den q.den := Nat.gcd_pos_of_pos_left _ p.den_pos
    have gl : Nat.gcd p.den q.den < 2 ^ 4000 := Nat.lt_of_le_of_lt (Nat.gcd_le_left _ p.den_pos) z1.2
    have e1 : (p.den : Int).natAbs < 2 ^ 4000 := z1.2
    have e2 : (q.den : Int).natAbs < 2 ^ 4000 := z2.2
    have d1 : ∀ i : Int, CDivW i ((Nat.gcd p.den q.den : Nat) : Int) := fun i => cdiv g0 gl (by decide) (by decide)
    have m1 : CMulW p.num ((q.den : Int) / ((Nat.gcd p.den q.den : Nat) : Int)) := cmul z1.1 (dlt e2) (by decide) (by decide) (by decide)
    have m2 : CMulW q.num ((p.den : Int) / ((Nat.gcd p.den q.den : Nat) : Int)) := cmul z2.1 (dlt e1) (by decide) (by decide) (by decide)
    have s0 : ∀ n : Nat, 0 < Nat.gcd n (Nat.gcd p.den q.den) := fun n => Nat.gcd_pos_of_pos_right _ g0
    have sl : ∀ n : Nat, Nat.gcd n (Nat.gcd p.den q.den) < 2 ^ 4000 := fun n => Nat.lt_of_le_of_lt (Nat.gcd_le_right _ g0) gl
    have d2 : ∀ (i : Int) (n : Nat), CDivW i ((Nat.gcd n (Nat.gcd p.den q.den) : Nat) : Int) := fun i n => cdiv (s0 n) (sl n) (by decide) (by decide)
    have m3 : ∀ n : Nat, CMulW ((p.den : Int) / ((Nat.gcd p.den q.den : Nat) : Int)) ((q.den : Int) / ((Nat.gcd n (Nat.gcd p.den q.den) : Nat) : Int)) := fun n => cmul (dlt e1) (dlt e2) (by decide) (by decide) (by decide)
    walk_at "go"
    refine r_I (d1 _) ?_
    walk_at "go"
    refine r_I (d1 _) ?_
    walk_at "go"
    refine r_I (d2 _ _) ?_
    walk_at "go"
    refine r_I (d2 _ _) ?_
    walk_at "go"
    refine r_I (m3 _) ?_
    walk_at "go"
    refine k _ _ (Ext.refl.new (by assumption)) ⟨_, rfl, ?_⟩
    obtain ⟨x1, x2⟩ := add_int p q
    rw [x1, x2]
    exact tupS
end
end Yk

set_option maxHeartbeats 1000000
namespace Yk
open PySem PySem.Spec PyProof.Rows L2

section
variable {P : Program} {w : World} {K : PySem.W.Frag} {mg : Str → Option Value} {base : Heap} {f : Addr} {fd : FuncData}
def spProd (K : PySem.W.Frag) : Sp := fun vs H Q _ => ∃ p q : Rat, vs = [.int p.num, .int (p.den : Int), .int q.num, .int (q.den : Int)] ∧ Sz 4000 p ∧ Sz 4000 q ∧ RetAm K H Q (p * q)
abbrev s_product : Stmt := top 9
theorem c_product : FnScope ["top", "bottom", "other_top", "other_bottom", "left", "right"] ["top", "bottom", "other_top", "other_bottom"] (defScope s_product) := ⟨rfl, rfl, rfl, by decide +kernel, rfl, by decide +kernel, by decide +kernel⟩
theorem f_product (F : FunD K "_product" "_product" (defArgs s_product) (defBody s_product) (defScope s_product) [] [] f fd) (hm : mg "_product" = some (.ref f)) (T : Bg mg) : Fn P w K mg base 1 "_product" (spProd K) := by
  refine fn_def F hm c_product (fun vs H Q E h => ?_) (fun _ _ _ _ _ _ us hl => match us, hl with | [_, _, _, _], _ => rfl) (fun cdv A outer s H vs Q E hr h => ?_)
  · obtain ⟨p, q, rfl, _⟩ := h
    rfl
  · obtain ⟨p, q, rfl, z1, z2, k⟩ := h
    have nd := c_product.nd
    refine ⟨_, (pss_cons (ps_set (i := 4) nd rfl (by first | exact Or.inl rfl | exact Or.inr rfl) (pe_callBfun cr_gcd (by rfl) T.gcd (pa_cons (pv 0) (pa_cons (pv 3) pa_nil))))
      (pss_cons (ps_set (i := 5) nd rfl (by first | exact Or.inl rfl | exact Or.inr rfl) (pe_callBfun cr_gcd (by rfl) T.gcd (pa_cons (pv 2) (pa_cons (pv 1) pa_nil))))
      (pss_one (ps_ret (pe_tup (pa_cons (pe_op op_mulW (pe_op op_fdivW (pv 0) (pv 4)) (pe_op op_fdivW (pv 2) (pv 5))) (pa_cons (pe_op op_mulW (pe_op op_fdivW (pv 1) (pv 5)) (pe_op op_fdivW (pv 3) (pv 4))) pa_nil))))))), ?_⟩
    show (_ : TS) _ [some _, some _, some _, some _, none, none] _
    try dsimp only [cxOf, Cx.nox]
    have g1 : 0 < Nat.gcd p.num.natAbs q.den := Nat.gcd_pos_of_pos_right _ q.den_pos
    have g2 : 0 < Nat.gcd q.num.natAbs p.den := Nat.gcd_pos_of_pos_right _ p.den_pos
    have l1 : Nat.gcd p.num.natAbs q.den < 2 ^ 4000 := Nat.lt_of_le_of_lt (Nat.gcd_le_right _ q.den_pos) z2.2
    have l2 : Nat.gcd q.num.natAbs p.den < 2 ^ 4000 := Nat.lt_of_le_of_lt (Nat.gcd_le_right _ p.den_pos) z1.2
    have e1 : (p.den : Int).natAbs < 2 ^ 4000 := z1.2
    have e2 : (q.den : Int).natAbs < 2 ^ 4000 := z2.2
    have d1 : ∀ i : Int, CDivW i ((Nat.gcd p.num.natAbs q.den : Nat) : Int) := fun i => cdiv g1 l1 (by decide) (by decide)
    have d2 : ∀ i : Int, CDivW i ((Nat.gcd q.num.natAbs p.den : Nat) : Int) := fun i => cdiv g2 l2 (by decide) (by decide)
    have m1 : CMulW (p.num / ((Nat.gcd p.num.natAbs q.den : Nat) : Int)) (q.num / ((Nat.gcd q.num.natAbs p.den : Nat) : Int)) := cmul (dlt z1.1) (dlt z2.1) (by decide) (by decide) (by decide)
    have m2 : CMulW ((p.den : Int) / ((Nat.gcd q.num.natAbs p.den : Nat) : Int)) ((q.den : Int) / ((Nat.gcd p.num.natAbs q.den : Nat) : Int)) := cmul (dlt e1) (dlt e2) (by decide) (by decide) (by decide)
    walk_at "go"
    refine r_I (d1 _) ?_
    walk_at "go"
    refine r_I (d2 _) ?_
    walk_at "go"
    refine r_I (d2 _) ?_
    walk_at "go"
    refine r_I (d1 _) ?_
    walk_at "go"
    refine k _ _ (Ext.refl.new (by assumption)) ⟨_, rfl, ?_⟩
    obtain ⟨x1, x2⟩ := mul_int' p q
    rw [x1, x2]
    exact tupS
def spTimes (K : PySem.W.Frag) : Sp := fun vs H Q _ => ∃ v1 v2 p q, vs = [v1, v2] ∧ Am K H v1 p ∧ Am K H v2 q ∧ Sz 4000 p ∧ Sz 4000 q ∧ RetAm K H Q (p * q)
abbrev s_times : Stmt := top 8
theorem c_times : FnScope ["first", "second"] ["first", "second"] (defScope s_times) := ⟨rfl, rfl, rfl, by decide +kernel, rfl, by decide +kernel, by decide +kernel⟩
theorem f_times (F : FunD K "times" "times" (defArgs s_times) (defBody s_times) (defScope s_times) [] [] f fd) (hm : mg "times" = some (.ref f)) (F_product : Fn P w K mg base 1 "_product" (spProd K)) : Fn P w K mg base 2 "times" (spTimes K) := by
  refine fn_def F hm c_times (fun vs H Q E h => ?_) (fun _ _ _ _ _ _ us hl => match us, hl with | [_, _], _ => rfl) (fun cdv A outer s H vs Q E hr h => ?_)
  · obtain ⟨v1, v2, p, q, rfl, _⟩ := h
    rfl
  · obtain ⟨v1, v2, p, q, rfl, ⟨a1, rfl, h1⟩, ⟨a2, rfl, h2⟩, z1, z2, k⟩ := h
    have nd := c_times.nd
    refine ⟨_, (pss_one (ps_ret (pe_fn F_product (hr.mono (by decide)) (pa_cons (pe_ix ix_tup (pv 0) pe_int (fun _ _ => rfl)) (pa_cons (pe_ix ix_tup (pv 0) pe_int (fun _ _ => rfl)) (pa_cons (pe_ix ix_tup (pv 1) pe_int (fun _ _ => rfl)) (pa_cons (pe_ix ix_tup (pv 1) pe_int (fun _ _ => rfl)) pa_nil))))))), ?_⟩
    show (_ : TS) _ [some _, some _] _
    try dsimp only [cxOf, Cx.nox]
    walk_at "go"
    exact ⟨p, q, rfl, z1, z2, k⟩
def spOver (K : PySem.W.Frag) : Sp := fun vs H Q _ => ∃ v1 v2 p q, vs = [v1, v2] ∧ Am K H v1 p ∧ Am K H v2 q ∧ 0 < q ∧ Sz 4000 p ∧ Sz 4000 q ∧ RetAm K H Q (p / q)
def cmpQ (p q : Rat) : Int := if p < q then -1 else if q < p then 1 else 0
def spCompare (K : PySem.W.Frag) : Sp := fun vs H Q _ => ∃ v1 v2 p q, vs = [v1, v2] ∧ Am K H v1 p ∧ Am K H v2 q ∧ Sz 4000 p ∧ Sz 4000 q ∧ Q (.int (cmpQ p q)) H
abbrev s_compare : Stmt := top 10
theorem c_compare : FnScope ["first", "second", "left", "right"] ["first", "second"] (defScope s_compare) := ⟨rfl, rfl, rfl, by decide +kernel, rfl, by decide +kernel, by decide +kernel⟩
theorem f_compare (F : FunD K "compare" "compare" (defArgs s_compare) (defBody s_compare) (defScope s_compare) [] [] f fd) (hm : mg "compare" = some (.ref f))  : Fn P w K mg base 1 "compare" (spCompare K) := by
  refine fn_def F hm c_compare (fun vs H Q E h => ?_) (fun _ _ _ _ _ _ us hl => match us, hl with | [_, _], _ => rfl) (fun cdv A outer s H vs Q E hr h => ?_)
  · obtain ⟨v1, v2, p, q, rfl, _⟩ := h
    rfl
  · obtain ⟨v1, v2, p, q, rfl, ⟨a1, rfl, h1⟩, ⟨a2, rfl, h2⟩, z1, z2, k⟩ := h
    have nd := c_compare.nd
    refine ⟨_, (pss_cons (ps_set (i := 2) nd rfl (by first | exact Or.inl rfl | exact Or.inr rfl) (pe_op op_mulW (pe_ix ix_tup (pv 0) pe_int (fun _ _ => rfl)) (pe_ix ix_tup (pv 1) pe_int (fun _ _ => rfl))))
      (pss_cons (ps_set (i := 3) nd rfl (by first | exact Or.inl rfl | exact Or.inr rfl) (pe_op op_mulW (pe_ix ix_tup (pv 1) pe_int (fun _ _ => rfl)) (pe_ix ix_tup (pv 0) pe_int (fun _ _ => rfl))))
      (pss_cons (ps_if (pt_cmpR op_lt (pv 2) (pv 3) (nomark _))
        (pss_one (ps_ret (pe_un un_neg pe_int)))
        pss_nil)
      (pss_cons (ps_if (pt_cmpR op_gt (pv 2) (pv 3) (nomark _))
        (pss_one (ps_ret pe_int))
        pss_nil)
      (pss_one (ps_ret pe_int)))))), ?_⟩
    show (_ : TS) _ [some _, some _, none, none] _
    try dsimp only [cxOf, Cx.nox]
    have e1 : (p.den : Int).natAbs < 2 ^ 4000 := z1.2
    have e2 : (q.den : Int).natAbs < 2 ^ 4000 := z2.2
    have m1 : CMulW p.num (q.den : Int) := cmul z1.1 e2 (by decide) (by decide) (by decide)
    have m2 : CMulW q.num (p.den : Int) := cmul z2.1 e1 (by decide) (by decide) (by decide)
    walk_at "go"
    refine r_dec (fun hlt => ?_) (fun hlt => ?_)
    · walk_at "go"
      unfold cmpQ at k
      rw [if_pos ((Rat.lt_iff p q).mpr hlt)] at k
      exact k
    · walk_at "go"
      have n1 : ¬ p < q := fun z => hlt ((Rat.lt_iff p q).mp z)
      refine r_dec (fun hgt => ?_) (fun hgt => ?_)
      · walk_at "go"
        unfold cmpQ at k
        rw [if_neg n1, if_pos ((Rat.lt_iff q p).mpr hgt)] at k
        exact k
      · walk_at "go"
        have n2 : ¬ q < p := fun z => hgt ((Rat.lt_iff q p).mp z)
        unfold cmpQ at k
        rw [if_neg n1, if_neg n2] at k
        exact k
def spMinus (K : PySem.W.Frag) : Sp := fun vs H Q _ => ∃ v1 v2 p q, vs = [v1, v2] ∧ Am K H v1 p ∧ Am K H v2 q ∧ q ≤ p ∧ Sz 4000 p ∧ Sz 4000 q ∧ RetAm K H Q (p - q)
/-- the sum of a row, from the left -/
def sumQ (qs : List Rat) : Rat := qs.foldl (· + ·) 0
theorem sumQ_take {qs : List Rat} {i : Nat} {q : Rat} (h : qs[i]? = some q) : sumQ (qs.take (i + 1)) = sumQ (qs.take i) + q := by
  obtain ⟨hl, e⟩ := List.getElem?_eq_some_iff.mp h
  unfold sumQ
  rw [← List.take_append_getElem hl, List.foldl_append, e]
  rfl
theorem sumQ_sz {m : Nat} : ∀ {qs : List Rat} (i : Nat), (∀ q ∈ qs, Sz m q) → i ≤ qs.length → Sz (1 + i * (m + 1)) (sumQ (qs.take i))
  | qs, 0, _, _ => by
    rw [List.take_zero]
    refine ⟨Nat.two_pow_pos _, ?_⟩
    rw [Nat.zero_mul]
    decide
  | qs, i + 1, h, hi => by
    have hq : qs[i]? = some qs[i] := List.getElem?_eq_getElem hi
    rw [sumQ_take hq]
    have h1 := sumQ_sz i h (by omega)
    have h2 := h qs[i] (List.getElem_mem hi)
    refine (sz_add h1 h2).mono ?_
    rw [Nat.add_mul]
    omega
def spPlusT (K : PySem.W.Frag) : Sp := fun vs H Q _ => ∃ t xs qs m, vs = [V.ref t] ∧ SqT K H t xs ∧ Ams K H xs qs ∧ (∀ q ∈ qs, Sz m q) ∧ m ≤ 4000 ∧ 1 + qs.length * (m + 1) ≤ 4000 ∧ RetAm K H Q (sumQ qs)
def spPlus (K : PySem.W.Frag) : Sp := fun vs H Q _ => ∃ qs m, Ams K H vs qs ∧ (∀ q ∈ qs, Sz m q) ∧ m ≤ 4000 ∧ 1 + qs.length * (m + 1) ≤ 4000 ∧ RetAm K H Q (sumQ qs)
abbrev s_plus : Stmt := top 6
theorem c_plus : FnScope ["amounts", "found", "further"] ["amounts"] (defScope s_plus) := ⟨rfl, rfl, rfl, by decide +kernel, rfl, by decide +kernel, by decide +kernel⟩
theorem f_plus (F : FunD K "plus" "plus" (defArgs s_plus) (defBody s_plus) (defScope s_plus) [] [] f fd) (hm : mg "plus" = some (.ref f)) (TZ : ∃ z, mg "ZERO" = some (.ref z) ∧ ∀ H, SqT K H z [.int 0, .int 1]) (F_added : Fn P w K mg base 1 "_added" (spAdded K)) : Fn P w K mg base 2 "plus" (spPlus K) := by
  refine fn_star (ps := []) (pv := "amounts") (sp := spPlusT K) F hm c_plus (fun _ _ _ _ _ _ us rest hl => match us, rest, hl with | [], [], _ => rfl | [], _ :: _, _ => rfl) (fun cdv A outer s H vs Q E hr h => ?_) ?himp
  case himp =>
    exact fun vs H Q E ⟨qs, m, h1, h2, h3, h4, k⟩ => ⟨[], vs, rfl, rfl, Nat.le_trans (by rw [h1.1]; have := Nat.le_mul_of_pos_right qs.length (show 0 < m + 1 by omega); omega : vs.length ≤ 4000) (by decide), fun p hp => ⟨p, vs, qs, m, rfl, tupS, h1.x0 (Ext.refl.new hp), h2, h3, h4, fun v H' e a => k v H' ((Ext.refl.new hp).trans e) a⟩⟩
  · obtain ⟨t, xs, qs, m, rfl, ht, ha, hz, hm, hl, k⟩ := h
    have nd := c_plus.nd
    obtain ⟨z, mz, TZ⟩ := TZ
    refine ⟨_, (pss_cons (ps_set (i := 1) nd rfl (by first | exact Or.inl rfl | exact Or.inr rfl) (pe_glob (v := .ref z) rfl mz rfl))
      (pss_cons (ps_for PassesOwn.never rfl (pi_tup (pv 0)) (pg_name (i := 2) nd rfl (by first | exact Or.inl rfl | exact Or.inr rfl))
        (pss_one (ps_set (i := 1) nd rfl (by first | exact Or.inl rfl | exact Or.inr rfl) (pe_fn F_added (hr.mono (by decide)) (pa_cons (pv 1) (pa_cons (pv 2) pa_nil))))))
      (pss_one (ps_ret (pv 1))))), ?_⟩
    show (_ : TS) _ [some _, none, none] _
    try dsimp only [cxOf, Cx.nox]
    walk_at "go"
    refine r_forT rfl ht (fun i σ H1 => Ext [] H H1 ∧ ∃ fv u, σ = [some (.ref t), some fv, u] ∧ Am K H1 fv (sumQ (qs.take i))) ⟨Ext.refl, _, _, rfl, ⟨z, rfl, TZ _⟩⟩ (fun i σ H1 _ h => tup0 h.1 ht) ?_ ?_
    · rintro i x σ H1 hx ⟨e1, fv, u, rfl, hf⟩
      have hi : i < qs.length := by rw [← ha.1]; exact (List.getElem?_eq_some_iff.mp hx).1
      have hq : qs[i]? = some qs[i] := List.getElem?_eq_getElem hi
      have hb := sumQ_sz i hz (by omega)
      have hsz : 1 + i * (m + 1) ≤ 4000 := Nat.le_trans (by have := Nat.mul_le_mul_right (m + 1) (Nat.le_of_lt hi); omega) hl
      walk_at "go"
      refine ⟨_, _, _, qs[i], rfl, hf, (ha.2 i x _ hx hq).x0 e1, hb.mono hsz, (hz _ (List.getElem_mem hi)).mono hm, fun v H' e a => ?_⟩
      walk_at "go"
      refine ⟨e1.trans e, _, _, rfl, ?_⟩
      rw [sumQ_take hq]
      exact a
    · rintro σ H1 ⟨e1, fv, u, rfl, hf⟩
      walk_at "go"
      rw [ha.1, List.take_length] at hf
      exact k _ _ e1 hf
end
end Yk

set_option maxHeartbeats 1000000
namespace Yk
open PySem PySem.Spec PyProof.Rows L2

section
variable {P : Program} {w : World} {K : PySem.W.Frag} {mg : Str → Option Value} {base : Heap} {f : Addr} {fd : FuncData}
def spMinT (F : Rat → List Rat → Rat) (K : PySem.W.Frag) : Sp := fun vs H Q _ => ∃ v0 q0 t xs qs, vs = [v0, V.ref t] ∧ Am K H v0 q0 ∧ Sz 4000 q0 ∧ SqT K H t xs ∧ Ams K H xs qs ∧ (∀ q ∈ qs, Sz 4000 q) ∧ RetAm K H Q (F q0 qs)
def spMin (F : Rat → List Rat → Rat) (K : PySem.W.Frag) : Sp := fun vs H Q _ => ∃ q0 qs, Ams K H vs (q0 :: qs) ∧ (∀ q ∈ q0 :: qs, Sz 4000 q) ∧ qs.length ≤ 4000 ∧ RetAm K H Q (F q0 qs)
theorem spMin_imp {F : Rat → List Rat → Rat} : ∀ vs H Q E, spMin F K vs H Q E → ∃ ws rest, vs = ws ++ rest ∧ ws.length = (["first"] : List Str).length ∧ rest.length ≤ sizeLine ∧ ∀ p, H p = none → spMinT F K (ws ++ [V.ref p]) (upd H p (.tup rest)) Q E := by
  rintro vs H Q E ⟨q0, qs, h1, h2, h3, k⟩
  cases vs with
  | nil => exact absurd h1.1 (by simp)
  | cons v0 rest =>
    have hl : rest.length = qs.length := by simpa using h1.1
    have h4 : Ams K H rest qs := ⟨hl, fun i v q a b => h1.2 (i + 1) v q (by simpa using a) (by simpa using b)⟩
    refine ⟨[v0], rest, rfl, rfl, Nat.le_trans (by omega : rest.length ≤ 4000) (by decide), fun p hp => ⟨v0, q0, p, rest, qs, rfl, (h1.2 0 v0 q0 rfl rfl).x0 (Ext.refl.new hp), h2 q0 List.mem_cons_self, tupS, h4.x0 (Ext.refl.new hp), fun q hq => h2 q (List.mem_cons_of_mem _ hq), fun v H' e a => k v H' ((Ext.refl.new hp).trans e) a⟩⟩
theorem cmp_lt (p q : Rat) : cmpQ p q < 0 ↔ p < q := by
  unfold cmpQ
  by_cases h : p < q
  · rw [if_pos h]; exact ⟨fun _ => h, fun _ => by decide⟩
  · rw [if_neg h]
    refine ⟨fun z => ?_, fun z => absurd z h⟩
    split at z <;> omega
theorem cmp_gt (p q : Rat) : 0 < cmpQ p q ↔ q < p := by
  unfold cmpQ
  by_cases h : p < q
  · rw [if_pos h]
    exact ⟨fun z => by omega, fun z => absurd (Rat.le_of_lt h) (Rat.not_le.mpr z)⟩
  · rw [if_neg h]
    by_cases h2 : q < p
    · rw [if_pos h2]; exact ⟨fun _ => h2, fun _ => by decide⟩
    · rw [if_neg h2]; exact ⟨fun z => by omega, fun z => absurd z h2⟩
abbrev s_smallest : Stmt := top 11
theorem c_smallest : FnScope ["first", "others", "found", "other"] ["first", "others"] (defScope s_smallest) := ⟨rfl, rfl, rfl, by decide +kernel, rfl, by decide +kernel, by decide +kernel⟩
theorem f_smallest (F : FunD K "smallest" "smallest" (defArgs s_smallest) (defBody s_smallest) (defScope s_smallest) [] [] f fd) (hm : mg "smallest" = some (.ref f)) (Fcompare : Fn P w K mg base 1 "compare" (spCompare K)) : Fn P w K mg base 2 "smallest" (spMin minQ K) := by
  refine fn_star (ps := ["first"]) (pv := "others") (sp := spMinT minQ K) F hm c_smallest (fun _ _ _ _ _ _ us rest hl => match us, rest, hl with | [_], [], _ => rfl | [_], _ :: _, _ => rfl) (fun cdv A outer s H vs Q E hr h => ?_) ?himp
  case himp =>
    exact spMin_imp
  · obtain ⟨v0, q0, t, xs, qs, rfl, h0, z0, ht, ha, hz, k⟩ := h
    have nd := c_smallest.nd
    refine ⟨_, (pss_cons (ps_set (i := 2) nd rfl (by first | exact Or.inl rfl | exact Or.inr rfl) (pv 0))
      (pss_cons (ps_for PassesOwn.never rfl (pi_tup (pv 1)) (pg_name (i := 3) nd rfl (by first | exact Or.inl rfl | exact Or.inr rfl))
        (pss_one (ps_if (pt_cmpR op_lt (pe_fn Fcompare (hr.mono (by decide)) (pa_cons (pv 3) (pa_cons (pv 2) pa_nil))) pe_int (nomark _))
          (pss_one (ps_set (i := 2) nd rfl (by first | exact Or.inl rfl | exact Or.inr rfl) (pv 3)))
          pss_nil)))
      (pss_one (ps_ret (pv 2))))), ?_⟩
    show (_ : TS) _ [some _, some _, none, none] _
    try dsimp only [cxOf, Cx.nox]
    walk_at "go"
    refine r_forT rfl ht (fun i σ H1 => H1 = H ∧ ∃ fv u, σ = [some v0, some (.ref t), some fv, u] ∧ Am K H fv (minQ q0 (qs.take i))) ⟨rfl, _, _, rfl, h0⟩ (fun i σ H1 _ h => h.1 ▸ ht) ?_ ?_
    · rintro i x σ H1 hx ⟨rfl, fv, u, rfl, hf⟩
      obtain ⟨q, hq, hxq⟩ := ha.at_ hx
      have sf : Sz 4000 (minQ q0 (qs.take i)) := minQ_mem z0 fun y hy => hz y (List.mem_of_mem_take hy)
      walk_at "go"
      refine ⟨_, _, q, _, rfl, hxq, hf, hz q (List.mem_of_getElem? hq), sf, ?_⟩
      walk_at "go"
      refine r_dec (fun hlt => ?_) (fun hge => ?_)
      · walk_at "go"
        refine ⟨rfl, _, _, rfl, ?_⟩
        unfold minQ
        rw [fold_take hq]
        show Am K H1 x (if q < minQ q0 (qs.take i) then q else minQ q0 (qs.take i))
        rw [if_pos ((cmp_lt _ _).mp hlt)]
        exact hxq
      · walk_at "go"
        refine ⟨rfl, _, _, rfl, ?_⟩
        unfold minQ
        rw [fold_take hq]
        show Am K H1 fv (if q < minQ q0 (qs.take i) then q else minQ q0 (qs.take i))
        rw [if_neg fun z => hge ((cmp_lt _ _).mpr z)]
        exact hf
    · rintro σ H1 ⟨rfl, fv, u, rfl, hf⟩
      walk_at "go"
      rw [ha.1, List.take_length] at hf
      exact k _ _ Ext.refl hf
abbrev s_largest : Stmt := top 12
theorem c_largest : FnScope ["first", "others", "found", "other"] ["first", "others"] (defScope s_largest) := ⟨rfl, rfl, rfl, by decide +kernel, rfl, by decide +kernel, by decide +kernel⟩
theorem f_largest (F : FunD K "largest" "largest" (defArgs s_largest) (defBody s_largest) (defScope s_largest) [] [] f fd) (hm : mg "largest" = some (.ref f)) (Fcompare : Fn P w K mg base 1 "compare" (spCompare K)) : Fn P w K mg base 2 "largest" (spMin maxQ K) := by
  refine fn_star (ps := ["first"]) (pv := "others") (sp := spMinT maxQ K) F hm c_largest (fun _ _ _ _ _ _ us rest hl => match us, rest, hl with | [_], [], _ => rfl | [_], _ :: _, _ => rfl) (fun cdv A outer s H vs Q E hr h => ?_) ?himp
  case himp =>
    exact spMin_imp
  · obtain ⟨v0, q0, t, xs, qs, rfl, h0, z0, ht, ha, hz, k⟩ := h
    have nd := c_largest.nd
    refine ⟨_, (pss_cons (ps_set (i := 2) nd rfl (by first | exact Or.inl rfl | exact Or.inr rfl) (pv 0))
      (pss_cons (ps_for PassesOwn.never rfl (pi_tup (pv 1)) (pg_name (i := 3) nd rfl (by first | exact Or.inl rfl | exact Or.inr rfl))
        (pss_one (ps_if (pt_cmpR op_gt (pe_fn Fcompare (hr.mono (by decide)) (pa_cons (pv 3) (pa_cons (pv 2) pa_nil))) pe_int (nomark _))
          (pss_one (ps_set (i := 2) nd rfl (by first | exact Or.inl rfl | exact Or.inr rfl) (pv 3)))
          pss_nil)))
      (pss_one (ps_ret (pv 2))))), ?_⟩
    show (_ : TS) _ [some _, some _, none, none] _
    try dsimp only [cxOf, Cx.nox]
    walk_at "go"
    refine r_forT rfl ht (fun i σ H1 => H1 = H ∧ ∃ fv u, σ = [some v0, some (.ref t), some fv, u] ∧ Am K H fv (maxQ q0 (qs.take i))) ⟨rfl, _, _, rfl, h0⟩ (fun i σ H1 _ h => h.1 ▸ ht) ?_ ?_
    · rintro i x σ H1 hx ⟨rfl, fv, u, rfl, hf⟩
      obtain ⟨q, hq, hxq⟩ := ha.at_ hx
      have sf : Sz 4000 (maxQ q0 (qs.take i)) := maxQ_mem z0 fun y hy => hz y (List.mem_of_mem_take hy)
      walk_at "go"
      refine ⟨_, _, q, _, rfl, hxq, hf, hz q (List.mem_of_getElem? hq), sf, ?_⟩
      walk_at "go"
      refine r_dec (fun hlt => ?_) (fun hge => ?_)
      · walk_at "go"
        refine ⟨rfl, _, _, rfl, ?_⟩
        unfold maxQ
        rw [fold_take hq]
        show Am K H1 x (if maxQ q0 (qs.take i) < q then q else maxQ q0 (qs.take i))
        rw [if_pos ((cmp_gt _ _).mp hlt)]
        exact hxq
      · walk_at "go"
        refine ⟨rfl, _, _, rfl, ?_⟩
        unfold maxQ
        rw [fold_take hq]
        show Am K H1 fv (if maxQ q0 (qs.take i) < q then q else maxQ q0 (qs.take i))
        rw [if_neg fun z => hge ((cmp_gt _ _).mpr z)]
        exact hf
    · rintro σ H1 ⟨rfl, fv, u, rfl, hf⟩
      walk_at "go"
      rw [ha.1, List.take_length] at hf
      exact k _ _ Ext.refl hf
def spPair (K : PySem.W.Frag) : Sp := fun vs H Q _ => ∃ a b : Nat, vs = [.int (a : Int), .int (b : Int)] ∧ 0 < b ∧ a < 2 ^ 8900 ∧ b < 2 ^ 8900 ∧ RetAm K H Q (mkRat (a : Int) b)
abbrev s_law_pair : Stmt := top 23
theorem c_law_pair : FnScope ["_law_a", "_law_b", "_law_x", "_law_y"] ["_law_a", "_law_b"] (defScope s_law_pair) := ⟨rfl, rfl, rfl, by decide +kernel, rfl, by decide +kernel, by decide +kernel⟩
theorem f_law_pair (F : FunD K "_law_pair" "_law_pair" (defArgs s_law_pair) (defBody s_law_pair) (defScope s_law_pair) [] [] f fd) (hm : mg "_law_pair" = some (.ref f)) (T : Bt mg) : Fn P w K mg base 1 "_law_pair" (spPair K) := by
  refine fn_def F hm c_law_pair (fun vs H Q E h => ?_) (fun _ _ _ _ _ _ us hl => match us, hl with | [_, _], _ => rfl) (fun cdv A outer s H vs Q E hr h => ?_)
  · obtain ⟨a, b, rfl, _⟩ := h
    rfl
  · obtain ⟨a, b, rfl, hb, la, lb, k⟩ := h
    have nd := c_law_pair.nd
    refine ⟨_, (pss_cons (ps_par (i := 2) (j := 3) (by rfl) nd rfl rfl (by decide) rfl rfl (pa_cons (pv 0) (pa_cons (pv 1) pa_nil)) (by rfl))
      (pss_cons (ps_while PassesOwn.never (pt_cmpR op_gt (pv 3) pe_int (nomark _))
        (pss_one (ps_par (i := 2) (j := 3) (by rfl) nd rfl rfl (by decide) rfl rfl (pa_cons (pv 3) (pa_cons (pe_op op_mod (pe_callTy call_int1 (by rfl) T.int (by decide +kernel) (pa_cons (pv 2) pa_nil)) (pv 3)) pa_nil)) (by rfl))))
      (pss_one (ps_ret (pe_tup (pa_cons (pe_op op_fdivW (pv 0) (pv 2)) (pa_cons (pe_op op_fdivW (pv 1) (pv 2)) pa_nil))))))), ?_⟩
    show (_ : TS) _ [some _, some _, none, none] _
    try dsimp only [cxOf, Cx.nox]
    walk_at "go"
    refine r_while (fun m σ H1 => H1 = H ∧ ∃ x y : Nat, y = m ∧ 0 < x + y ∧ σ = [some (.int (a : Int)), some (.int (b : Int)), some (.int (x : Int)), some (.int (y : Int))] ∧ Nat.gcd x y = Nat.gcd a b) b ⟨rfl, a, b, rfl, by omega, rfl, rfl⟩ ?_
    rintro m σ H1 ⟨rfl, x, y, rfl, hxy, rfl, hg⟩
    walk_at "go"
    refine r_dec (fun hy => ?_) (fun hy => ?_)
    · have hy' : 0 < y := by omega
      refine ⟨fun σ H' => H' = H1 ∧ σ = [some (.int (a : Int)), some (.int (b : Int)), some (.int (y : Int)), some (.int ((x % y : Nat) : Int))], ?_, ?_⟩
      · rintro σ' H' ⟨rfl, rfl⟩
        refine ⟨x % y, Nat.mod_lt _ hy', rfl, y, x % y, rfl, by omega, rfl, ?_⟩
        rw [← hg, Nat.gcd_comm x y, Nat.gcd_rec y x, Nat.gcd_comm]
      · walk_at "go"
        exact ⟨rfl, rfl⟩
    · have y0 : y = 0 := by omega
      subst y0
      rw [Nat.gcd_zero_right] at hg
      have hx : 0 < x := by omega
      have lx : x < 2 ^ 8900 := Nat.lt_of_le_of_lt (by rw [hg]; exact Nat.gcd_le_right _ hb) lb
      have d1 : ∀ i : Int, CDivW i (x : Int) := fun i => cdiv hx lx (by decide) (by decide)
      walk_at "go"
      refine r_I (d1 _) ?_
      walk_at "go"
      refine r_I (d1 _) ?_
      walk_at "go"
      refine k _ _ (Ext.refl.new (by assumption)) ⟨_, rfl, ?_⟩
      obtain ⟨x1, x2⟩ := mk_parts a b hb
      rw [x1, x2, ← hg]
      simp only [Int.natCast_ediv]
      exact tupS
end
end Yk

set_option maxHeartbeats 1000000
namespace Yk
open PySem PySem.Spec PyProof.Rows L2

section
variable {P : Program} {w : World} {K : PySem.W.Frag} {mg : Str → Option Value} {base : Heap} {f : Addr} {fd : FuncData}
theorem szd {n : Nat} {q : Rat} (h : Sz n q) : (q.den : Int).natAbs < 2 ^ n := h.2
theorem mulz {m n : Nat} {i j : Int} (hi : i.natAbs < 2 ^ m) (hj : j.natAbs < 2 ^ n) : (i * j).natAbs < 2 ^ (m + n) := wide_lt hi hj
/-- amounts are not below nought: their first numbers are natural -/
theorem num_nat {q : Rat} (h : 0 ≤ q) : q.num = ((q.num.toNat : Nat) : Int) := (Int.toNat_of_nonneg (num_nn h)).symm
theorem pos_num {q : Rat} (h : 0 < q) : 0 < q.num.toNat := by have := num_pos' h; omega
theorem mk_add (p q : Rat) : mkRat (p.num * q.den + q.num * p.den) (p.den * q.den) = p + q := by rw [Rat.add_def, Rat.normalize_eq_mkRat]
theorem mk_mul (p q : Rat) : mkRat (p.num * q.num) (p.den * q.den) = p * q := by rw [Rat.mul_def, Rat.normalize_eq_mkRat]
def spMore (K : PySem.W.Frag) : Sp := fun vs H Q _ => ∃ v1 v2 p q, vs = [v1, v2] ∧ Am K H v1 p ∧ Am K H v2 q ∧ Sz 4000 p ∧ Sz 4000 q ∧ Q (.bl (decide (q < p))) H
abbrev s_law_more : Stmt := top 24
theorem c_law_more : FnScope ["_law_p", "_law_q"] ["_law_p", "_law_q"] (defScope s_law_more) := ⟨rfl, rfl, rfl, by decide +kernel, rfl, by decide +kernel, by decide +kernel⟩
theorem f_law_more (F : FunD K "_law_more" "_law_more" (defArgs s_law_more) (defBody s_law_more) (defScope s_law_more) [] [] f fd) (hm : mg "_law_more" = some (.ref f))  : Fn P w K mg base 1 "_law_more" (spMore K) := by
  refine fn_def F hm c_law_more (fun vs H Q E h => ?_) (fun _ _ _ _ _ _ us hl => match us, hl with | [_, _], _ => rfl) (fun cdv A outer s H vs Q E hr h => ?_)
  · obtain ⟨v1, v2, p, q, rfl, _⟩ := h
    rfl
  · obtain ⟨v1, v2, p, q, rfl, ⟨a1, rfl, h1⟩, ⟨a2, rfl, h2⟩, z1, z2, k⟩ := h
    have nd := c_law_more.nd
    refine ⟨_, (pss_one (ps_ret (pe_cmpR op_gt (pe_op op_mulW (pe_ix ix_tup (pv 0) pe_int (fun _ _ => rfl)) (pe_ix ix_tup (pv 1) pe_int (fun _ _ => rfl))) (pe_op op_mulW (pe_ix ix_tup (pv 1) pe_int (fun _ _ => rfl)) (pe_ix ix_tup (pv 0) pe_int (fun _ _ => rfl))) (nomark _)))), ?_⟩
    show (_ : TS) _ [some _, some _] _
    try dsimp only [cxOf, Cx.nox]
    have m1 : CMulW p.num (q.den : Int) := cmul z1.1 (szd z2) (by decide) (by decide) (by decide)
    have m2 : CMulW q.num (p.den : Int) := cmul z2.1 (szd z1) (by decide) (by decide) (by decide)
    walk_at "go"
    have e : decide (q.num * (p.den : Int) < p.num * (q.den : Int)) = decide (q < p) := decide_eq_decide.mpr (Rat.lt_iff q p).symm
    rw [e]
    exact k
/-- two amounts, of at most 2000 bits, to one -/
def sp2 (ok : Rat → Rat → Prop) (F : Rat → Rat → Rat) (K : PySem.W.Frag) : Sp := fun vs H Q _ => ∃ v1 v2 p q, vs = [v1, v2] ∧ Am K H v1 p ∧ Am K H v2 q ∧ Sz 4000 p ∧ Sz 4000 q ∧ 0 ≤ p ∧ 0 ≤ q ∧ ok p q ∧ RetAm K H Q (F p q)
abbrev s_law_add : Stmt := top 25
theorem c_law_add : FnScope ["_law_p", "_law_q"] ["_law_p", "_law_q"] (defScope s_law_add) := ⟨rfl, rfl, rfl, by decide +kernel, rfl, by decide +kernel, by decide +kernel⟩
theorem f_law_add (F : FunD K "_law_add" "_law_add" (defArgs s_law_add) (defBody s_law_add) (defScope s_law_add) [] [] f fd) (hm : mg "_law_add" = some (.ref f)) (F_law_pair : Fn P w K mg base 1 "_law_pair" (spPair K)) : Fn P w K mg base 2 "_law_add" (sp2 (fun _ _ => True) (· + ·) K) := by
  refine fn_def F hm c_law_add (fun vs H Q E h => ?_) (fun _ _ _ _ _ _ us hl => match us, hl with | [_, _], _ => rfl) (fun cdv A outer s H vs Q E hr h => ?_)
  · obtain ⟨v1, v2, p, q, rfl, _⟩ := h
    rfl
  · obtain ⟨v1, v2, p, q, rfl, ⟨a1, rfl, h1⟩, ⟨a2, rfl, h2⟩, z1, z2, p0, q0, _, k⟩ := h
    have nd := c_law_add.nd
    refine ⟨_, (pss_one (ps_ret (pe_fn F_law_pair (hr.mono (by decide)) (pa_cons (pe_op op_add (pe_op op_mulW (pe_ix ix_tup (pv 0) pe_int (fun _ _ => rfl)) (pe_ix ix_tup (pv 1) pe_int (fun _ _ => rfl))) (pe_op op_mulW (pe_ix ix_tup (pv 1) pe_int (fun _ _ => rfl)) (pe_ix ix_tup (pv 0) pe_int (fun _ _ => rfl)))) (pa_cons (pe_op op_mulW (pe_ix ix_tup (pv 0) pe_int (fun _ _ => rfl)) (pe_ix ix_tup (pv 1) pe_int (fun _ _ => rfl))) pa_nil))))), ?_⟩
    show (_ : TS) _ [some _, some _] _
    try dsimp only [cxOf, Cx.nox]
    have m1 : CMulW p.num (q.den : Int) := cmul z1.1 (szd z2) (by decide) (by decide) (by decide)
    have m2 : CMulW q.num (p.den : Int) := cmul z2.1 (szd z1) (by decide) (by decide) (by decide)
    have m3 : CMulW (p.den : Int) (q.den : Int) := cmul (szd z1) (szd z2) (by decide) (by decide) (by decide)
    walk_at "go"
    have e1 := mulz z1.1 (szd z2)
    have e2 := mulz z2.1 (szd z1)
    have e3 : p.den * q.den < 2 ^ (4000 + 4000) := by rw [Nat.pow_add]; exact Nat.mul_lt_mul'' z1.2 z2.2
    have e4 : (2 : Nat) ^ (4000 + 4000) + 2 ^ (4000 + 4000) ≤ 2 ^ 8900 := by decide +kernel
    have n1 : 0 ≤ p.num * (q.den : Int) := Int.mul_nonneg (num_nn p0) (by omega)
    have n2 : 0 ≤ q.num * (p.den : Int) := Int.mul_nonneg (num_nn q0) (by omega)
    refine ⟨(p.num * (q.den : Int) + q.num * (p.den : Int)).toNat, p.den * q.den, ?_, Nat.mul_pos p.den_pos q.den_pos, ?_, by omega, fun v H' e a => k v H' e ?_⟩
    · rw [Int.toNat_of_nonneg (by omega), Int.natCast_mul]
    · generalize (2 : Nat) ^ (4000 + 4000) = B at *
      generalize (2 : Nat) ^ 8900 = C at *
      omega
    · rw [Int.toNat_of_nonneg (by omega), mk_add] at a
      exact a
theorem mk_quot {p q : Rat} (hq : 0 < q) : mkRat (p.num * q.den) (p.den * q.num.toNat) = p / q := by
  obtain ⟨i1, i2⟩ := inv_parts hq
  have e : q⁻¹.den = q.num.toNat := by omega
  rw [Rat.div_def, ← mk_mul, i1, e]
end
end Yk

set_option maxHeartbeats 1000000
namespace Yk
open PySem PySem.Spec PyProof.Rows L2

section
variable {P : Program} {w : World} {K : PySem.W.Frag} {mg : Str → Option Value} {base : Heap} {f : Addr} {fd : FuncData}
def lmin (p q : Rat) : Rat := if q < p then q else p
def lmax (p q : Rat) : Rat := if q < p then p else q
abbrev s_law_min : Stmt := top 26
theorem c_law_min : FnScope ["_law_p", "_law_q"] ["_law_p", "_law_q"] (defScope s_law_min) := ⟨rfl, rfl, rfl, by decide +kernel, rfl, by decide +kernel, by decide +kernel⟩
theorem f_law_min (F : FunD K "_law_min" "_law_min" (defArgs s_law_min) (defBody s_law_min) (defScope s_law_min) [] [] f fd) (hm : mg "_law_min" = some (.ref f)) (F_law_more : Fn P w K mg base 1 "_law_more" (spMore K)) : Fn P w K mg base 2 "_law_min" (sp2 (fun _ _ => True) lmin K) := by
  refine fn_def F hm c_law_min (fun vs H Q E h => ?_) (fun _ _ _ _ _ _ us hl => match us, hl with | [_, _], _ => rfl) (fun cdv A outer s H vs Q E hr h => ?_)
  · obtain ⟨v1, v2, p, q, rfl, _⟩ := h
    rfl
  · obtain ⟨v1, v2, p, q, rfl, h1, h2, z1, z2, p0, q0, _, k⟩ := h
    have nd := c_law_min.nd
    refine ⟨_, (pss_one (ps_ret (pe_ifExp (pt_val (pe_fn F_law_more (hr.mono (by decide)) (pa_cons (pv 0) (pa_cons (pv 1) pa_nil)))) (pv 1) (pv 0)))), ?_⟩
    show (_ : TS) _ [some _, some _] _
    try dsimp only [cxOf, Cx.nox]
    walk_at "go"
    refine ⟨_, _, p, q, rfl, h1, h2, z1, z2, ?_⟩
    refine r_bl ?_
    refine r_dec (fun hl => ?_) (fun hl => ?_)
    · walk_at "go"
      refine k _ _ Ext.refl ?_
      unfold lmin
      rw [if_pos hl]
      exact h2
    · walk_at "go"
      refine k _ _ Ext.refl ?_
      unfold lmin
      rw [if_neg hl]
      exact h1
abbrev s_law_max : Stmt := top 27
theorem c_law_max : FnScope ["_law_p", "_law_q"] ["_law_p", "_law_q"] (defScope s_law_max) := ⟨rfl, rfl, rfl, by decide +kernel, rfl, by decide +kernel, by decide +kernel⟩
theorem f_law_max (F : FunD K "_law_max" "_law_max" (defArgs s_law_max) (defBody s_law_max) (defScope s_law_max) [] [] f fd) (hm : mg "_law_max" = some (.ref f)) (F_law_more : Fn P w K mg base 1 "_law_more" (spMore K)) : Fn P w K mg base 2 "_law_max" (sp2 (fun _ _ => True) lmax K) := by
  refine fn_def F hm c_law_max (fun vs H Q E h => ?_) (fun _ _ _ _ _ _ us hl => match us, hl with | [_, _], _ => rfl) (fun cdv A outer s H vs Q E hr h => ?_)
  · obtain ⟨v1, v2, p, q, rfl, _⟩ := h
    rfl
  · obtain ⟨v1, v2, p, q, rfl, h1, h2, z1, z2, p0, q0, _, k⟩ := h
    have nd := c_law_max.nd
    refine ⟨_, (pss_one (ps_ret (pe_ifExp (pt_val (pe_fn F_law_more (hr.mono (by decide)) (pa_cons (pv 0) (pa_cons (pv 1) pa_nil)))) (pv 0) (pv 1)))), ?_⟩
    show (_ : TS) _ [some _, some _] _
    try dsimp only [cxOf, Cx.nox]
    walk_at "go"
    refine ⟨_, _, p, q, rfl, h1, h2, z1, z2, ?_⟩
    refine r_bl ?_
    refine r_dec (fun hl => ?_) (fun hl => ?_)
    · walk_at "go"
      refine k _ _ Ext.refl ?_
      unfold lmax
      rw [if_pos hl]
      exact h1
    · walk_at "go"
      refine k _ _ Ext.refl ?_
      unfold lmax
      rw [if_neg hl]
      exact h2
def spOrder (K : PySem.W.Frag) : Sp := fun vs H Q _ => ∃ v1 v2 p q, vs = [v1, v2] ∧ Am K H v1 p ∧ Am K H v2 q ∧ Sz 4000 p ∧ Sz 4000 q ∧ Q (.int (cmpQ p q)) H
theorem sumQ_nn : ∀ {qs : List Rat} {z : Rat}, 0 ≤ z → (∀ q ∈ qs, 0 ≤ q) → 0 ≤ qs.foldl (· + ·) z
  | [], z, h, _ => h
  | q :: r, z, h, hq => sumQ_nn (qs := r) (z := z + q) (Rat.add_nonneg h (hq q List.mem_cons_self)) fun x hx => hq x (List.mem_cons_of_mem _ hx)
def spSum (K : PySem.W.Frag) : Sp := fun vs H Q _ => ∃ t xs qs m, vs = [V.ref t] ∧ SqL K H t xs ∧ Ams K H xs qs ∧ (∀ q ∈ qs, Sz m q) ∧ (∀ q ∈ qs, 0 ≤ q) ∧ m ≤ 4000 ∧ 1 + qs.length * (m + 1) ≤ 4000 ∧ RetAm K H Q (sumQ qs)
abbrev s_law_sum : Stmt := top 28
theorem c_law_sum : FnScope ["_law_pairs", "_law_done", "_law_p"] ["_law_pairs"] (defScope s_law_sum) := ⟨rfl, rfl, rfl, by decide +kernel, rfl, by decide +kernel, by decide +kernel⟩
theorem f_law_sum (F : FunD K "_law_sum" "_law_sum" (defArgs s_law_sum) (defBody s_law_sum) (defScope s_law_sum) [] [] f fd) (hm : mg "_law_sum" = some (.ref f)) (F_law_add : Fn P w K mg base 2 "_law_add" (sp2 (fun _ _ => True) (· + ·) K)) : Fn P w K mg base 3 "_law_sum" (spSum K) := by
  refine fn_def F hm c_law_sum (fun vs H Q E h => ?_) (fun _ _ _ _ _ _ us hl => match us, hl with | [_], _ => rfl) (fun cdv A outer s H vs Q E hr h => ?_)
  · obtain ⟨t, xs, qs, m, rfl, _⟩ := h
    rfl
  · obtain ⟨t, xs, qs, m, rfl, ht, ha, hz, hn, hm, hl, k⟩ := h
    have nd := c_law_sum.nd
    refine ⟨_, (pss_cons (ps_set (i := 1) nd rfl (by first | exact Or.inl rfl | exact Or.inr rfl) (pe_tup (pa_cons pe_int (pa_cons pe_int pa_nil))))
      (pss_cons (ps_for PassesOwn.never rfl (pi_list (pv 0)) (pg_name (i := 2) nd rfl (by first | exact Or.inl rfl | exact Or.inr rfl))
        (pss_one (ps_set (i := 1) nd rfl (by first | exact Or.inl rfl | exact Or.inr rfl) (pe_fn F_law_add (hr.mono (by decide)) (pa_cons (pv 1) (pa_cons (pv 2) pa_nil))))))
      (pss_one (ps_ret (pv 1))))), ?_⟩
    show (_ : TS) _ [some _, none, none] _
    try dsimp only [cxOf, Cx.nox]
    walk_at "go"
    refine r_forL rfl (by walk_at "sq") (fun i σ H1 => Ext [] H H1 ∧ ∃ fv u, σ = [some (.ref t), some fv, u] ∧ Am K H1 fv (sumQ (qs.take i))) ⟨Ext.refl.new (by assumption), _, _, rfl, ⟨_, rfl, tupS⟩⟩ (fun i σ H1 _ h => lst0 h.1 ht) ?_ ?_
    · rintro i x σ H1 hx ⟨e1, fv, u, rfl, hf⟩
      have hi : i < qs.length := by rw [← ha.1]; exact (List.getElem?_eq_some_iff.mp hx).1
      have hq : qs[i]? = some qs[i] := List.getElem?_eq_getElem hi
      have hb := sumQ_sz i hz (by omega)
      have hsz : 1 + i * (m + 1) ≤ 4000 := Nat.le_trans (by have := Nat.mul_le_mul_right (m + 1) (Nat.le_of_lt hi); omega) hl
      walk_at "go"
      refine ⟨_, _, _, qs[i], rfl, hf, (ha.2 i x _ hx hq).x0 e1, hb.mono hsz, (hz _ (List.getElem_mem hi)).mono hm, sumQ_nn (by decide) (fun q hq => hn q (List.mem_of_mem_take hq)), hn _ (List.getElem_mem hi), trivial, fun v H' e a => ?_⟩
      walk_at "go"
      refine ⟨e1.trans e, _, _, rfl, ?_⟩
      rw [sumQ_take hq]
      exact a
    · rintro σ H1 ⟨e1, fv, u, rfl, hf⟩
      walk_at "go"
      rw [ha.1, List.take_length] at hf
      exact k _ _ e1 hf
end
end Yk

set_option maxHeartbeats 2000000
namespace Yk
open PySem PySem.Spec PyProof.Rows L2

section
variable {P : Program} {w : World} {K : PySem.W.Frag} {mg : Str → Option Value} {base : Heap} {f : Addr} {fd : FuncData}
theorem lst_upd {K : PySem.W.Frag} {H : Hp} {a b : Addr} {o : HO} {xs l : List V} (h : SqL K H a xs) (hb : H b = some (.lst l)) (hd : xs ≠ l) : SqL K (upd H b o) a xs := by
  rcases h with (h | ⟨u, h⟩) | h
  · exact .inl (.inl (by rw [upd_ne (fun z => hd (by rw [z, hb] at h; cases h; rfl))]; exact h))
  · exact .inl (.inr ⟨u, by rw [upd_ne (fun z => by rw [z, hb] at h; cases h)]; exact h⟩)
  · exact .inr h
theorem ns_ne (ns : List Int) (it : Addr) (l : List V) : ns.map V.int ≠ .ref it :: l := by
  cases ns with
  | nil => intro h; cases h
  | cons n r => intro h; cases h
theorem cpow {i : Int} {j : Int} (h0 : 0 ≤ j) (h1 : j ≤ 1000000) (h : i.natAbs < 2 ^ 64) : CPow i j := ⟨h0, h1, h⟩
theorem cdivc (i : Int) : CDivW i 97 := ⟨by decide, by decide +kernel⟩
def spDraw (K : PySem.W.Frag) : Sp := fun vs H Q _ => ∃ (b : Bag) (n : Int), vs = [.ref b.a, .int n] ∧ 0 < n ∧ n < 2 ^ 400 ∧ BagAt K H b ∧ ∀ (x : Int) H', 0 ≤ x → x < n → BagAt K H' b → Ext [b.a] H H' → Q (.int x) H'
theorem at_map {ns : List Int} {i : Nat} (h : i < ns.length) : atI (ns.map V.int) (i : Int) = some (.int ns[i]) := atI_nat (by rw [List.getElem?_map, List.getElem?_eq_getElem h] <;> rfl)
theorem bag_ex {K : PySem.W.Frag} {H : Hp} {b it : Addr} {ns : List Int} {pos : Nat} {rest seed cnt : Int} (hb : H b = some (.lst [.ref it, .int (pos : Int), .int rest, .int seed, .int cnt])) (hi : SqL K H it (ns.map V.int)) (hns : ns.length ≤ 63)
    (hp : pos ≤ ns.length) (hr : 0 ≤ rest) (h0 : 0 ≤ seed) (h1 : seed < 2147483629) : BagAt K H ⟨b, it, ns⟩ := ⟨_, hb, hi, hns, pos, rest, seed, cnt, rfl, hp, hr, h0, h1⟩
theorem modI (a : Int) {n : Int} (h : 0 < n) : 0 ≤ a % n ∧ a % n < n := ⟨Int.emod_nonneg a (by omega), Int.emod_lt_of_pos a h⟩
abbrev s_law_draw : Stmt := top 20
theorem c_law_draw : FnScope ["_law_bag_here", "_law_many", "_law_item", "_law_digit"] ["_law_bag_here", "_law_many"] (defScope s_law_draw) := ⟨rfl, rfl, rfl, by decide +kernel, rfl, by decide +kernel, by decide +kernel⟩
theorem f_law_draw (F : FunD K "_law_draw" "_law_draw" (defArgs s_law_draw) (defBody s_law_draw) (defScope s_law_draw) [] [] f fd) (hm : mg "_law_draw" = some (.ref f)) (T : Bt mg) : Fn P w K mg base 1 "_law_draw" (spDraw K) := by
  refine fn_def F hm c_law_draw (fun vs H Q E h => ?_) (fun _ _ _ _ _ _ us hl => match us, hl with | [_, _], _ => rfl) (fun cdv A outer s H vs Q E hr h => ?_)
  · obtain ⟨b, n, rfl, _⟩ := h
    rfl
  · obtain ⟨⟨b, it, ns⟩, n, rfl, hn, hn2, ⟨l, hb, hi, hns, pos, rest, seed, cnt, rfl, hp, hr0, hs0, hs1⟩, k⟩ := h
    have nd := c_law_draw.nd
    dsimp only at hb hi hns hp k
    refine ⟨_, (pss_cons (ps_asg (pe_op op_add (pe_ix ix_list (pv 0) pe_int (fun _ _ => rfl)) pe_int) (pg_sub (pv 0) pe_int set_list))
      (pss_mid (ps_if (PW.pt (pw_and (pt_cmpR op_eq (pe_ix ix_list (pv 0) pe_int (fun _ _ => rfl)) pe_int (nomark _)) (pw_and1 (pt_cmpR op_lt (pe_ix ix_list (pv 0) pe_int (fun _ _ => rfl)) (pe_callB cr_len (by rfl) T.len (by decide +kernel) (pa_cons (pe_ix ix_list (pv 0) pe_int (fun _ _ => rfl)) pa_nil)) (nomark _)))))
        (pss_cons (ps_set (i := 2) nd rfl (by first | exact Or.inl rfl | exact Or.inr rfl) (pe_ix ix_list (pe_ix ix_list (pv 0) pe_int (fun _ _ => rfl)) (pe_ix ix_list (pv 0) pe_int (fun _ _ => rfl)) (fun _ _ => rfl)))
        (pss_cons (ps_asg (pe_op op_add (pe_ix ix_list (pv 0) pe_int (fun _ _ => rfl)) pe_int) (pg_sub (pv 0) pe_int set_list))
        (pss_one (ps_if (pt_cmpR op_ge (pv 2) (pe_op op_pow pe_int pe_int) (nomark _))
          (pss_one (ps_asg (pv 2) (pg_sub (pv 0) pe_int set_list)))
          (pss_one (ps_asg (pe_op op_mod (pe_callTy call_int1 (by rfl) T.int (by decide +kernel) (pa_cons (pe_op op_add (pe_op op_add (pe_op op_mul (pe_ix ix_list (pv 0) pe_int (fun _ _ => rfl)) pe_int) (pe_op op_mul (pe_op op_mod (pe_callTy call_int1 (by rfl) T.int (by decide +kernel) (pa_cons (pv 2) pa_nil)) pe_int) pe_int)) pe_int) pa_nil)) pe_int) (pg_sub (pv 0) pe_int set_list)))))))
        pss_nil)
      (pss_cons (ps_if (pt_cmpR op_gt (pe_ix ix_list (pv 0) pe_int (fun _ _ => rfl)) pe_int (nomark _))
        (pss_cons (ps_set (i := 3) nd rfl (by first | exact Or.inl rfl | exact Or.inr rfl) (pe_op op_mod (pe_callTy call_int1 (by rfl) T.int (by decide +kernel) (pa_cons (pe_ix ix_list (pv 0) pe_int (fun _ _ => rfl)) pa_nil)) (pv 1)))
        (pss_cons (ps_asg (pe_op op_fdivW (pe_ix ix_list (pv 0) pe_int (fun _ _ => rfl)) (pv 1)) (pg_sub (pv 0) pe_int set_list))
        (pss_one (ps_ret (pv 3)))))
        pss_nil)
      (pss_cons (ps_asg (pe_op op_mod (pe_callTy call_int1 (by rfl) T.int (by decide +kernel) (pa_cons (pe_op op_add (pe_op op_add (pe_op op_pow (pe_ix ix_list (pv 0) pe_int (fun _ _ => rfl)) pe_int) (pe_op op_mul (pe_ix ix_list (pv 0) pe_int (fun _ _ => rfl)) pe_int)) pe_int) pa_nil)) pe_int) (pg_sub (pv 0) pe_int set_list))
      (pss_one (ps_ret (pe_op op_mod (pe_callTy call_int1 (by rfl) T.int (by decide +kernel) (pa_cons (pe_op op_add (pe_op op_fdivW (pe_ix ix_list (pv 0) pe_int (fun _ _ => rfl)) pe_int) (pe_op op_mul (pe_op op_mod (pe_callTy call_int1 (by rfl) T.int (by decide +kernel) (pa_cons (pe_ix ix_list (pv 0) pe_int (fun _ _ => rfl)) pa_nil)) pe_int) pe_int)) pa_nil)) (pv 1)))))))), ?_⟩
    show (_ : TS) _ [some _, some _, none, none] _
    try dsimp only [cxOf, Cx.nox]
    have bb : SqL K H b [.ref it, .int (pos : Int), .int rest, .int seed, .int cnt] := .inl (.inl hb)
    walk_at "go"
    refine r_setB (K := K) hb rfl _ rfl (fun H1 hb1 e1 c1 => ?_)
    have bb1 : SqL K H1 b [.ref it, .int (pos : Int), .int rest, .int seed, .int (cnt + 1)] := .inl (.inl hb1)
    have hi1 := c1 _ _ hi (ns_ne _ _ _)
    refine r_mid (fun σ H2 => ∃ (u : Option V) (pos' : Nat) (rest' seed' : Int), σ = [some (.ref b), some (.int n), u, none] ∧ H2 b = some (.lst [.ref it, .int (pos' : Int), .int rest', .int seed', .int (cnt + 1)]) ∧ SqL K H2 it (ns.map V.int) ∧ Ext [b] H H2 ∧ pos' ≤ ns.length ∧ 0 ≤ rest' ∧ 0 ≤ seed' ∧ seed' < 2147483629) ?_ ?_
    · walk_at "go"
      refine r_dec (fun hrest => ?_) (fun hrest => ?_)
      · walk_at "go"
        refine r_dec (fun hpos => ?_) (fun hpos => ?_)
        · have hpn : pos < ns.length := by rw [List.length_map] at hpos; omega
          walk_at "go"
          refine r_ixL hi1 (at_map hpn) ?_
          walk_at "go"
          refine r_setB (K := K) hb1 rfl _ rfl (fun H2 hb2 e2 c2 => ?_)
          have bb2 : SqL K H2 b [.ref it, .int ((pos : Int) + 1), .int rest, .int seed, .int (cnt + 1)] := .inl (.inl hb2)
          have hi2 := c2 _ _ hi1 (ns_ne _ _ _)
          walk_at "go"
          refine r_dec (fun hge => ?_) (fun hge => ?_)
          · walk_at "go"
            refine r_setB (K := K) hb2 rfl _ rfl (fun H3 hb3 e3 c3 => ?_)
            exact ⟨_, pos + 1, ns[pos], seed, rfl, by rw [Int.natCast_add]; exact hb3, c3 _ _ hi2 (ns_ne _ _ _), (e1.trans e2).trans e3, hpn, Int.le_trans (by decide) hge, hs0, hs1⟩
          · walk_at "go"
            refine r_setB (K := K) hb2 rfl _ rfl (fun H3 hb3 e3 c3 => ?_)
            have hm := modI (seed * 69621 + ns[pos] % 2147483549 * 30103 + 89) (n := 2147483629) (by decide)
            exact ⟨_, pos + 1, rest, _, rfl, by rw [Int.natCast_add]; exact hb3, c3 _ _ hi2 (ns_ne _ _ _), (e1.trans e2).trans e3, hpn, hr0, hm.1, hm.2⟩
        · walk_at "go"
          exact ⟨_, pos, rest, seed, rfl, hb1, hi1, e1, hp, hr0, hs0, hs1⟩
      · walk_at "go"
        exact ⟨_, pos, rest, seed, rfl, hb1, hi1, e1, hp, hr0, hs0, hs1⟩
    · rintro σ H2 ⟨u, pos', rest', seed', rfl, hb2, hi2, e2, hp2, hr2, hs2, hs3⟩
      have bb2 : SqL K H2 b [.ref it, .int (pos' : Int), .int rest', .int seed', .int (cnt + 1)] := .inl (.inl hb2)
      walk_at "go"
      refine r_dec (fun hpos => ?_) (fun hpos => ?_)
      · have d1 : CDivW rest' n := wide_div hn (b := 400) (by omega) (by decide) (by decide)
        walk_at "go"
        refine r_setB (K := K) hb2 rfl _ rfl (fun H3 hb3 e3 c3 => ?_)
        walk_at "go"
        have hm := modI rest' hn
        exact k _ H3 hm.1 hm.2 (bag_ex hb3 (c3 _ _ hi2 (ns_ne _ _ _)) hns hp2 (Int.ediv_nonneg hr2 (by omega)) hs2 hs3) (e2.trans e3)
      · have c4 : CPow seed' 3 := ⟨by decide, by decide, by omega⟩
        walk_at "go"
        refine r_setB (K := K) hb2 rfl _ rfl (fun H3 hb3 e3 c3 => ?_)
        have hm := modI (seed' ^ Int.toNat 3 + (cnt + 1) * 1299709 + 60013) (n := 2147483629) (by decide)
        have bb3 : SqL K H3 b [.ref it, .int (pos' : Int), .int rest', .int ((seed' ^ Int.toNat 3 + (cnt + 1) * 1299709 + 60013) % 2147483629), .int (cnt + 1)] := .inl (.inl hb3)
        walk_at "go"
        have hm2 := modI ((seed' ^ Int.toNat 3 + (cnt + 1) * 1299709 + 60013) % 2147483629 / 97 + (seed' ^ Int.toNat 3 + (cnt + 1) * 1299709 + 60013) % 2147483629 % 7901 * 67) hn
        exact k _ H3 hm2.1 hm2.2 (bag_ex hb3 (c3 _ _ hi2 (ns_ne _ _ _)) hns hp2 hr2 hm.1 hm.2) (e2.trans e3)
end
end Yk

set_option maxHeartbeats 2000000
namespace Yk
open PySem PySem.Spec PyProof.Rows L2

section
variable {P : Program} {w : World} {K : PySem.W.Frag} {mg : Str → Option Value} {base : Heap} {f : Addr} {fd : FuncData}
theorem cut_all {xs : List V} (h : xs.length ≤ 63) : cutV xs none (some 63) = xs := by
  unfold cutV
  rw [show HT.sIx xs.length 0 none = 0 from rfl, show HT.sIx xs.length xs.length (some 63) = min 63 xs.length from HT.sIx_nat _ _ 63, List.drop_zero, Nat.min_eq_right h]
  simp
def spBag (K : PySem.W.Frag) : Sp := fun vs H Q _ => ∃ (a : Addr) (ns : List Int), vs = [.ref a] ∧ SqL K H a (ns.map V.int) ∧ ns.length ≤ 63 ∧ ∀ (b : Bag) H', H b.a = none → Ext [] H H' → BagAt K H' b → Q (.ref b.a) H'
abbrev s_law_bag : Stmt := top 19
theorem c_law_bag : FnScope ["_law_script", "_law_seed", "_law_item"] ["_law_script"] (defScope s_law_bag) := ⟨rfl, rfl, rfl, by decide +kernel, rfl, by decide +kernel, by decide +kernel⟩
theorem f_law_bag (F : FunD K "_law_bag" "_law_bag" (defArgs s_law_bag) (defBody s_law_bag) (defScope s_law_bag) [] [] f fd) (hm : mg "_law_bag" = some (.ref f)) (T : Bt mg) : Fn P w K mg base 1 "_law_bag" (spBag K) := by
  refine fn_def F hm c_law_bag (fun vs H Q E h => ?_) (fun _ _ _ _ _ _ us hl => match us, hl with | [_], _ => rfl) (fun cdv A outer s H vs Q E hr h => ?_)
  · obtain ⟨a, ns, rfl, _⟩ := h
    rfl
  · obtain ⟨a, ns, rfl, ha, hns, k⟩ := h
    have nd := c_law_bag.nd
    refine ⟨_, (pss_cons (ps_set (i := 1) nd rfl (by first | exact Or.inl rfl | exact Or.inr rfl) pe_int)
      (pss_cons (ps_for PassesOwn.never rfl (pi_list (pe_slice sl_list (pv 0) po_none (po_some pe_int))) (pg_name (i := 2) nd rfl (by first | exact Or.inl rfl | exact Or.inr rfl))
        (pss_one (ps_set (i := 1) nd rfl (by first | exact Or.inl rfl | exact Or.inr rfl) (pe_op op_mod (pe_callTy call_int1 (by rfl) T.int (by decide +kernel) (pa_cons (pe_op op_add (pe_op op_add (pe_op op_mul (pv 1) pe_int) (pe_op op_mod (pe_callTy call_int1 (by rfl) T.int (by decide +kernel) (pa_cons (pv 2) pa_nil)) pe_int)) pe_int) pa_nil)) pe_int))))
      (pss_one (ps_ret (pe_lst (pa_cons (pe_callTy cr_list (by rfl) T.list (by decide +kernel) (pa_cons (pe_slice sl_list (pv 0) po_none (po_some pe_int)) pa_nil)) (pa_cons pe_int (pa_cons pe_int (pa_cons (pv 1) (pa_cons pe_int pa_nil)))))))))), ?_⟩
    show (_ : TS) _ [some _, none, none] _
    try dsimp only [cxOf, Cx.nox]
    have hc : cutV (ns.map V.int) none (some 63) = ns.map V.int := cut_all (by rw [List.length_map]; exact hns)
    walk_at "go"
    refine r_for ?_
    refine r_iList ?_
    walk_at "go"
    refine r_slList ha fun p hp => ?_
    rw [hc]
    refine ⟨p, rfl, ⟨_, lstS⟩, r_loopL (xs := ns.map V.int) (fun i σ H1 => H1 = upd H p (.lst (ns.map V.int)) ∧ ∃ seed u, σ = [some (.ref a), some (.int seed), u] ∧ 0 ≤ seed ∧ seed < 2147483629) ⟨rfl, 13965, none, rfl, by decide, by decide⟩ (fun i σ H1 _ h => by rw [h.1]; exact lstS) ?_ ?_⟩
    · rintro i x σ H1 hx ⟨rfl, seed, u, rfl, h0, h1⟩
      obtain ⟨z, rfl⟩ : ∃ z, x = V.int z := by
        rw [List.getElem?_map] at hx
        cases e : ns[i]? with
        | none => rw [e] at hx; cases hx
        | some z => rw [e] at hx; exact ⟨z, (Option.some.inj hx).symm⟩
      walk_at "go"
      have hm := modI (seed * 48271 + z % 2147483587 + 307) (n := 2147483629) (by decide)
      exact ⟨rfl, _, _, rfl, hm.1, hm.2⟩
    · rintro σ H1 ⟨rfl, seed, u, rfl, h0, h1⟩
      walk_at "go"
      refine r_slList (lstN ha hp) fun p2 hp2 => ?_
      rw [hc]
      walk_at "go"
      refine r_list (.inl lstS) fun l hl => ?_
      walk_at "go"
      have x3 := ((Ext.refl (S := []) (H := H)).new hp).new hp2 |>.new (o := .lst (ns.map V.int)) hl
      exact k ⟨_, l, ns⟩ _ (x3.free (by assumption)) (x3.new (by assumption)) (bag_ex (pos := 0) upd_same (lstN lstS (by assumption)) hns (Nat.zero_le _) (Int.le_refl _) h0 h1)
/-- one of a row of things: what is told of all of them is told of it -/
def spOf (K : PySem.W.Frag) : Sp := fun vs H Q _ => ∃ (b : Bag) (l : Addr) (xs : List V), vs = [.ref b.a, .ref l] ∧ BagAt K H b ∧ SqL K H l xs ∧ b.a ≠ l ∧ 0 < xs.length ∧ xs.length ≤ 4000 ∧ ∀ (i : Nat) (x : V) H', xs[i]? = some x → BagAt K H' b → Ext [b.a] H H' → Q x H'
abbrev s_law_of : Stmt := top 21
theorem c_law_of : FnScope ["_law_bag_here", "_law_things"] ["_law_bag_here", "_law_things"] (defScope s_law_of) := ⟨rfl, rfl, rfl, by decide +kernel, rfl, by decide +kernel, by decide +kernel⟩
theorem f_law_of (F : FunD K "_law_of" "_law_of" (defArgs s_law_of) (defBody s_law_of) (defScope s_law_of) [] [] f fd) (hm : mg "_law_of" = some (.ref f)) (T : Bt mg) (F_law_draw : Fn P w K mg base 1 "_law_draw" (spDraw K)) : Fn P w K mg base 2 "_law_of" (spOf K) := by
  refine fn_def F hm c_law_of (fun vs H Q E h => ?_) (fun _ _ _ _ _ _ us hl => match us, hl with | [_, _], _ => rfl) (fun cdv A outer s H vs Q E hr h => ?_)
  · obtain ⟨b, l, xs, rfl, _⟩ := h
    rfl
  · obtain ⟨b, l, xs, rfl, hb, hl, hne, h0, h4, k⟩ := h
    have nd := c_law_of.nd
    refine ⟨_, (pss_one (ps_ret (pe_ix ix_list (pv 1) (pe_fn F_law_draw (hr.mono (by decide)) (pa_cons (pv 0) (pa_cons (pe_callB cr_len (by rfl) T.len (by decide +kernel) (pa_cons (pv 1) pa_nil)) pa_nil))) (fun _ _ => rfl)))), ?_⟩
    show (_ : TS) _ [some _, some _] _
    try dsimp only [cxOf, Cx.nox]
    walk_at "go"
    refine ⟨b, _, rfl, by omega, Int.lt_of_le_of_lt (by omega : (xs.length : Int) ≤ 4000) (by decide), hb, fun x H' x0 x1 hb' e => ?_⟩
    have hl' : SqL K H' l xs := lstX e hl (by simpa using fun z => hne z.symm)
    have hx : x.toNat < xs.length := by omega
    refine r_ixL hl' (v := xs[x.toNat]) ?_ (k x.toNat _ H' (List.getElem?_eq_getElem hx) hb' e)
    have e2 : x = ((x.toNat : Nat) : Int) := by omega
    exact at_of e2 (List.getElem?_eq_getElem hx)
end
end Yk

set_option maxHeartbeats 4000000
namespace Yk
open PySem PySem.Spec PyProof.Rows L2

section
variable {P : Program} {w : World} {K : PySem.W.Frag} {mg : Str → Option Value} {base : Heap} {f : Addr} {fd : FuncData}
theorem of_am {K : PySem.W.Frag} {H : Hp} {b : Bag} {l : Addr} {xs : List V} {qs : List Rat} {Q : VK} {E : XK} (hb : BagAt K H b) (hl : SqL K H l xs) (hne : b.a ≠ l) (ha : Ams K H xs qs) (h0 : 0 < qs.length) (h4 : qs.length ≤ 4000)
    (k : ∀ v q H', q ∈ qs → Am K H' v q → BagAt K H' b → Ext [b.a] H H' → Q v H') : spOf K [.ref b.a, .ref l] H Q E :=
  ⟨b, l, xs, rfl, hb, hl, hne, by rw [ha.1]; exact h0, by rw [ha.1]; exact h4, fun i x H' hx hb' e => by
    obtain ⟨q, hq, hm⟩ := ha.at_ hx
    exact k x q H' (List.mem_of_getElem? hq) (hm.b hb e) hb' e⟩
theorem mulp {i j a b : Int} (i0 : 0 ≤ i) (i1 : i < a) (j0 : 0 ≤ j) (j1 : j < b) (ha : a ≤ 2 ^ 400) (hb : b ≤ 2 ^ 400) : CMulW i j := by
  refine cmul (m := 401) (n := 401) ?_ ?_ (by decide) (by decide) (by decide)
  · have : (2 : Nat) ^ 400 < 2 ^ 401 := by decide
    have : ((2 : Nat) ^ 400 : Int) = 2 ^ 400 := by norm_cast
    omega
  · have : (2 : Nat) ^ 400 < 2 ^ 401 := by decide
    have : ((2 : Nat) ^ 400 : Int) = 2 ^ 400 := by norm_cast
    omega
theorem e10 : (10 : Int) ^ Int.toNat 10 = 10000000000 := by decide
theorem e4 : (10 : Int) ^ Int.toNat 4 = 10000 := by decide
theorem e9 : (10 : Int) ^ Int.toNat 9 = 1000000000 := by decide
def spGreat (K : PySem.W.Frag) : Sp := fun vs H Q _ => ∃ b, vs = [.ref b.a] ∧ BagAt K H b ∧ ∀ (x : Int) H', 0 ≤ x → x < 2 ^ 114 → BagAt K H' b → Ext [b.a] H H' → Q (.int x) H'
abbrev s_law_great : Stmt := top 31
theorem c_law_great : FnScope ["_law_bag_here", "_law_a", "_law_b", "_law_c"] ["_law_bag_here"] (defScope s_law_great) := ⟨rfl, rfl, rfl, by decide +kernel, rfl, by decide +kernel, by decide +kernel⟩
theorem f_law_great (F : FunD K "_law_great" "_law_great" (defArgs s_law_great) (defBody s_law_great) (defScope s_law_great) [] [] f fd) (hm : mg "_law_great" = some (.ref f)) (F_law_draw : Fn P w K mg base 1 "_law_draw" (spDraw K)) (F_law_of : Fn P w K mg base 2 "_law_of" (spOf K)) : Fn P w K mg base 3 "_law_great" (spGreat K) := by
  refine fn_def F hm c_law_great (fun vs H Q E h => ?_) (fun _ _ _ _ _ _ us hl => match us, hl with | [_], _ => rfl) (fun cdv A outer s H vs Q E hr h => ?_)
  · obtain ⟨b, rfl, _⟩ := h
    rfl
  · obtain ⟨b, rfl, hb, k⟩ := h
    have nd := c_law_great.nd
    refine ⟨_, (pss_cons (ps_set (i := 1) nd rfl (by first | exact Or.inl rfl | exact Or.inr rfl) (pe_fn F_law_draw (hr.mono (by decide)) (pa_cons (pv 0) (pa_cons (pe_op op_pow pe_int pe_int) pa_nil))))
      (pss_cons (ps_set (i := 2) nd rfl (by first | exact Or.inl rfl | exact Or.inr rfl) (pe_fn F_law_draw (hr.mono (by decide)) (pa_cons (pv 0) (pa_cons (pe_op op_pow pe_int pe_int) pa_nil))))
      (pss_cons (ps_set (i := 3) nd rfl (by first | exact Or.inl rfl | exact Or.inr rfl) (pe_fn F_law_draw (hr.mono (by decide)) (pa_cons (pv 0) (pa_cons (pe_op op_pow pe_int pe_int) pa_nil))))
      (pss_one (ps_ret (pe_fn F_law_of (hr.mono (by decide)) (pa_cons (pv 0) (pa_cons (pe_lst (pa_cons (pv 1) (pa_cons (pe_op op_add (pe_op op_mul (pv 1) (pe_op op_pow pe_int pe_int)) (pv 2)) (pa_cons (pe_op op_add (pe_op op_mul (pe_op op_add (pe_op op_mul (pv 1) (pe_op op_pow pe_int pe_int)) (pv 2)) (pe_op op_pow pe_int pe_int)) (pv 3)) (pa_cons (pe_op op_add (pe_op op_mul (pe_op op_add (pe_op op_mul (pe_op op_add (pe_op op_mul (pv 1) (pe_op op_pow pe_int pe_int)) (pv 2)) (pe_op op_pow pe_int pe_int)) (pv 3)) (pe_op op_pow pe_int pe_int)) (pe_fn F_law_draw (hr.mono (by decide)) (pa_cons (pv 0) (pa_cons (pe_op op_pow pe_int pe_int) pa_nil)))) pa_nil))))) pa_nil)))))))), ?_⟩
    show (_ : TS) _ [some _, none, none, none] _
    try dsimp only [cxOf, Cx.nox]
    walk_at "go"
    refine ⟨b, _, rfl, by decide, by decide, hb, fun x1 H1 l1 u1 b1 n1 => ?_⟩
    walk_at "go"
    refine ⟨b, _, rfl, by decide, by decide, b1, fun x2 H2 l2 u2 b2 n2 => ?_⟩
    walk_at "go"
    refine ⟨b, _, rfl, by decide, by decide, b2, fun x3 H3 l3 u3 b3 n3 => ?_⟩
    rw [e10] at u1 u2 u3
    walk_at "go"
    refine ⟨b, _, rfl, by decide, by decide, b3, fun x4 H4 l4 u4 b4 n4 => ?_⟩
    rw [e4] at u4
    walk_at "go"
    have e14 := ((n1.trans n2).trans n3).trans n4
    refine ⟨b, _, _, rfl, b4.new (by assumption), lstS, b4.ne (by assumption), Nat.succ_pos _, by simp, fun i x H5 hx b5 e5 => ?_⟩
    have e15 : Ext [b.a] H H5 := (e14.new (by assumption)).trans e5
    match i, hx with
    | 0, hx =>
      cases hx
      exact k _ _ l1 (Int.lt_trans u1 (by decide)) b5 e15
    | 1, hx =>
      cases hx
      rw [e10]
      exact k _ _ (by omega) (Int.lt_trans (by omega : x1 * 10000000000 + x2 < 100000000000000000000) (by decide)) b5 e15
    | 2, hx =>
      cases hx
      rw [e10]
      exact k _ _ (by omega) (Int.lt_trans (by omega : (x1 * 10000000000 + x2) * 10000000000 + x3 < 1000000000000000000000000000000) (by decide)) b5 e15
    | 3, hx =>
      cases hx
      rw [e10, e4]
      exact k _ _ (by omega) (Int.lt_of_lt_of_le (by omega : ((x1 * 10000000000 + x2) * 10000000000 + x3) * 10000 + x4 < 10000000000000000000000000000000000) (by decide)) b5 e15
    | i + 4, hx => cases hx
theorem pair_am {a b : Nat} {m : Nat} (ha : a < 2 ^ m) (hb : 0 < b) (hb2 : b < 2 ^ m) : Sz m (mkRat (a : Int) b) ∧ 0 ≤ mkRat (a : Int) b := ⟨sz_mk hb rfl (by simpa using ha) hb2, mk_nn a b⟩
def spAmt (K : PySem.W.Frag) : Sp := fun vs H Q _ => ∃ b, vs = [.ref b.a] ∧ BagAt K H b ∧ ∀ v q H', Am K H' v q → 0 ≤ q → Sz 114 q → BagAt K H' b → Ext [b.a] H H' → Q v H'
/-- a bit: a whole number of twelfths, at most 12 -/
def spBit (K : PySem.W.Frag) : Sp := fun vs H Q _ => ∃ b, vs = [.ref b.a] ∧ BagAt K H b ∧ ∀ v (n d : Nat) H', n ≤ 12 → 0 < d → d ∣ 12 → Am K H' v (mkRat (n : Int) d) → BagAt K H' b → Ext [b.a] H H' → Q v H'
abbrev s_law_bit : Stmt := top 33
theorem c_law_bit : FnScope ["_law_bag_here"] ["_law_bag_here"] (defScope s_law_bit) := ⟨rfl, rfl, rfl, by decide +kernel, rfl, by decide +kernel, by decide +kernel⟩
theorem f_law_bit (F : FunD K "_law_bit" "_law_bit" (defArgs s_law_bit) (defBody s_law_bit) (defScope s_law_bit) [] [] f fd) (hm : mg "_law_bit" = some (.ref f)) (F_law_draw : Fn P w K mg base 1 "_law_draw" (spDraw K)) (F_law_of : Fn P w K mg base 2 "_law_of" (spOf K)) (F_law_pair : Fn P w K mg base 1 "_law_pair" (spPair K)) : Fn P w K mg base 3 "_law_bit" (spBit K) := by
  refine fn_def F hm c_law_bit (fun vs H Q E h => ?_) (fun _ _ _ _ _ _ us hl => match us, hl with | [_], _ => rfl) (fun cdv A outer s H vs Q E hr h => ?_)
  · obtain ⟨b, rfl, _⟩ := h
    rfl
  · obtain ⟨b, rfl, hb, k⟩ := h
    have nd := c_law_bit.nd
    refine ⟨_, (pss_one (ps_ret (pe_fn F_law_pair (hr.mono (by decide)) (pa_cons (pe_fn F_law_draw (hr.mono (by decide)) (pa_cons (pv 0) (pa_cons pe_int pa_nil))) (pa_cons (pe_fn F_law_of (hr.mono (by decide)) (pa_cons (pv 0) (pa_cons (pe_lst (pa_cons pe_int (pa_cons pe_int (pa_cons pe_int (pa_cons pe_int (pa_cons pe_int (pa_cons pe_int (pa_cons pe_int pa_nil)))))))) pa_nil))) pa_nil))))), ?_⟩
    show (_ : TS) _ [some _] _
    try dsimp only [cxOf, Cx.nox]
    walk_at "go"
    refine ⟨b, _, rfl, by decide, by decide, hb, fun x1 H1 l1 u1 b1 n1 => ?_⟩
    walk_at "go"
    refine ⟨b, _, _, rfl, b1.new (by assumption), lstS, b1.ne (by assumption), by decide, by decide, fun i x H5 hx b5 e5 => ?_⟩
    have e15 : Ext [b.a] H H5 := (n1.new (by assumption)).trans e5
    have hd : ∃ d : Nat, x = .int (d : Int) ∧ 0 < d ∧ d < 2 ^ 114 ∧ d ∣ 12 := by
      match i, hx with
      | 0, hx => cases hx; exact ⟨1, rfl, by decide, by decide, by decide⟩
      | 1, hx => cases hx; exact ⟨1, rfl, by decide, by decide, by decide⟩
      | 2, hx => cases hx; exact ⟨2, rfl, by decide, by decide, by decide⟩
      | 3, hx => cases hx; exact ⟨3, rfl, by decide, by decide, by decide⟩
      | 4, hx => cases hx; exact ⟨1, rfl, by decide, by decide, by decide⟩
      | 5, hx => cases hx; exact ⟨4, rfl, by decide, by decide, by decide⟩
      | 6, hx => cases hx; exact ⟨12, rfl, by decide, by decide, by decide⟩
      | i + 7, hx => cases hx
    obtain ⟨d, rfl, d0, d1, d12⟩ := hd
    have ex : x1 = ((x1.toNat : Nat) : Int) := by omega
    rw [ex]
    have hx1 : x1.toNat < 2 ^ 114 := Nat.lt_of_lt_of_le (by omega : x1.toNat < 13) (by decide)
    refine ⟨x1.toNat, d, rfl, d0, Nat.lt_of_lt_of_le hx1 (Nat.pow_le_pow_right (by decide) (by decide)), Nat.lt_of_lt_of_le d1 (Nat.pow_le_pow_right (by decide) (by decide)), fun v H' e a => ?_⟩
    exact k v x1.toNat d H' (by omega) d0 d12 a (b5.x0 e) (e15.trans e.of0)
theorem spBit_amt {H : Hp} {b : Bag} {Q : VK} {E : XK} (hb : BagAt K H b) (k : ∀ v q H', Am K H' v q → 0 ≤ q → Sz 114 q → BagAt K H' b → Ext [b.a] H H' → Q v H') : spBit K [.ref b.a] H Q E :=
  ⟨b, rfl, hb, fun v n d H' hn d0 hd a b' e => by
    obtain ⟨z1, z2⟩ := pair_am (m := 114) (Nat.lt_of_le_of_lt hn (by decide)) d0 (Nat.lt_of_le_of_lt (Nat.le_of_dvd (by decide) hd) (by decide))
    exact k v _ H' a z2 z1 b' e⟩
theorem sz_lit {n : Int} {d m : Nat} (hd : d ≠ 0) (hc : n.natAbs.Coprime d) (h1 : n.natAbs < 2 ^ m) (h2 : d < 2 ^ m) : Sz m ⟨n, d, hd, hc⟩ := ⟨h1, h2⟩
theorem nn_lit {n : Int} {d : Nat} (hd : d ≠ 0) (hc : n.natAbs.Coprime d) (h : 0 ≤ n) : (0 : Rat) ≤ ⟨n, d, hd, hc⟩ := Rat.num_nonneg.mp h
def nine : List Rat := [⟨0, 1, by decide, by decide⟩, ⟨1, 1, by decide, by decide⟩, ⟨1000, 1, by decide, by decide⟩, ⟨1, 12, by decide, by decide⟩, ⟨999, 1, by decide, by decide⟩, ⟨1001, 1, by decide, by decide⟩, ⟨12001, 12, by decide, by decide⟩, ⟨1, 13, by decide, by decide⟩, ⟨2, 1, by decide, by decide⟩]
theorem nine_all : ∀ q ∈ nine, 0 ≤ q ∧ Sz 114 q := by
  intro q hq
  unfold nine at hq
  simp only [List.mem_cons, List.not_mem_nil, or_false] at hq
  rcases hq with rfl | rfl | rfl | rfl | rfl | rfl | rfl | rfl | rfl <;> exact ⟨nn_lit _ _ (by decide), sz_lit _ _ (by decide) (by decide)⟩
abbrev s_law_amount : Stmt := top 32
theorem c_law_amount : FnScope ["_law_bag_here", "_law_shape"] ["_law_bag_here"] (defScope s_law_amount) := ⟨rfl, rfl, rfl, by decide +kernel, rfl, by decide +kernel, by decide +kernel⟩
theorem f_law_amount (F : FunD K "_law_amount" "_law_amount" (defArgs s_law_amount) (defBody s_law_amount) (defScope s_law_amount) [] [] f fd) (hm : mg "_law_amount" = some (.ref f)) (T : Bt mg) (F_law_draw : Fn P w K mg base 1 "_law_draw" (spDraw K)) (F_law_of : Fn P w K mg base 2 "_law_of" (spOf K)) (F_law_pair : Fn P w K mg base 1 "_law_pair" (spPair K)) (F_law_great : Fn P w K mg base 3 "_law_great" (spGreat K)) : Fn P w K mg base 4 "_law_amount" (spAmt K) := by
  refine fn_def F hm c_law_amount (fun vs H Q E h => ?_) (fun _ _ _ _ _ _ us hl => match us, hl with | [_], _ => rfl) (fun cdv A outer s H vs Q E hr h => ?_)
  · obtain ⟨b, rfl, _⟩ := h
    rfl
  · obtain ⟨b, rfl, hb, k⟩ := h
    have nd := c_law_amount.nd
    refine ⟨_, (pss_cons (ps_set (i := 1) nd rfl (by first | exact Or.inl rfl | exact Or.inr rfl) (pe_fn F_law_draw (hr.mono (by decide)) (pa_cons (pv 0) (pa_cons pe_int pa_nil))))
      (pss_cons (ps_if (pt_cmpR op_eq (pv 1) pe_int (nomark _))
        (pss_one (ps_ret (pe_fn F_law_of (hr.mono (by decide)) (pa_cons (pv 0) (pa_cons (pe_lst (pa_cons (pe_tup (pa_cons pe_int (pa_cons pe_int pa_nil))) (pa_cons (pe_tup (pa_cons pe_int (pa_cons pe_int pa_nil))) (pa_cons (pe_tup (pa_cons pe_int (pa_cons pe_int pa_nil))) (pa_cons (pe_tup (pa_cons pe_int (pa_cons pe_int pa_nil))) (pa_cons (pe_tup (pa_cons pe_int (pa_cons pe_int pa_nil))) (pa_cons (pe_tup (pa_cons pe_int (pa_cons pe_int pa_nil))) (pa_cons (pe_tup (pa_cons pe_int (pa_cons pe_int pa_nil))) (pa_cons (pe_tup (pa_cons pe_int (pa_cons pe_int pa_nil))) (pa_cons (pe_tup (pa_cons pe_int (pa_cons pe_int pa_nil))) pa_nil)))))))))) pa_nil)))))
        pss_nil)
      (pss_cons (ps_if (pt_cmpR op_lt (pv 1) pe_int (nomark _))
        (pss_one (ps_ret (pe_fn F_law_pair (hr.mono (by decide)) (pa_cons (pe_fn F_law_draw (hr.mono (by decide)) (pa_cons (pv 0) (pa_cons pe_int pa_nil))) (pa_cons (pe_op op_add pe_int (pe_fn F_law_draw (hr.mono (by decide)) (pa_cons (pv 0) (pa_cons pe_int pa_nil)))) pa_nil)))))
        pss_nil)
      (pss_cons (ps_if (pt_cmpR op_eq (pv 1) pe_int (nomark _))
        (pss_one (ps_ret (pe_fn F_law_pair (hr.mono (by decide)) (pa_cons (pe_fn F_law_draw (hr.mono (by decide)) (pa_cons (pv 0) (pa_cons (pe_op op_pow pe_int pe_int) pa_nil))) (pa_cons (pe_op op_add pe_int (pe_fn F_law_draw (hr.mono (by decide)) (pa_cons (pv 0) (pa_cons (pe_op op_sub (pe_op op_pow pe_int pe_int) pe_int) pa_nil)))) pa_nil)))))
        pss_nil)
      (pss_cons (ps_if (pt_cmpR op_eq (pv 1) pe_int (nomark _))
        (pss_one (ps_ret (pe_fn F_law_pair (hr.mono (by decide)) (pa_cons (pe_fn F_law_great (hr.mono (by decide)) (pa_cons (pv 0) pa_nil)) (pa_cons (pe_op op_add pe_int (pe_fn F_law_draw (hr.mono (by decide)) (pa_cons (pv 0) (pa_cons pe_int pa_nil)))) pa_nil)))))
        pss_nil)
      (pss_one (ps_ret (pe_fn F_law_pair (hr.mono (by decide)) (pa_cons (pe_fn F_law_great (hr.mono (by decide)) (pa_cons (pv 0) pa_nil)) (pa_cons (pe_callB (call_max2 rfl) (by rfl) T.max (by decide +kernel) (pa_cons pe_int (pa_cons (pe_fn F_law_great (hr.mono (by decide)) (pa_cons (pv 0) pa_nil)) pa_nil))) pa_nil)))))))))), ?_⟩
    show (_ : TS) _ [some _, none] _
    try dsimp only [cxOf, Cx.nox]
    have pk : ∀ (x y : Int) (H' : Hp), 0 ≤ x → x < 2 ^ 114 → 0 < y → y < 2 ^ 114 → BagAt K H' b → Ext [b.a] H H' → spPair K [.int x, .int y] H' Q E0 := fun x y H' x0 x1 y0 y1 b' e' => by
      have ex : x = ((x.toNat : Nat) : Int) := by omega
      have ey : y = ((y.toNat : Nat) : Int) := by omega
      have hx : x.toNat < 2 ^ 114 := by
        have : ((2 ^ 114 : Nat) : Int) = 2 ^ 114 := by norm_cast
        omega
      have hy : y.toNat < 2 ^ 114 := by
        have : ((2 ^ 114 : Nat) : Int) = 2 ^ 114 := by norm_cast
        omega
      rw [ex, ey]
      refine ⟨x.toNat, y.toNat, rfl, by omega, Nat.lt_of_lt_of_le hx (Nat.pow_le_pow_right (by decide) (by decide)), Nat.lt_of_lt_of_le hy (Nat.pow_le_pow_right (by decide) (by decide)), fun v H2 e a => ?_⟩
      obtain ⟨z1, z2⟩ := pair_am hx (by omega) hy
      exact k v _ H2 a z2 z1 (b'.x0 e) (e'.trans e.of0)
    walk_at "go"
    refine ⟨b, _, rfl, by decide, by decide, hb, fun x1 H1 l1 u1 b1 n1 => ?_⟩
    walk_at "go"
    refine r_dec (fun h0 => ?_) (fun h0 => ?_)
    · walk_at "go"
      refine of_am (qs := nine) (by walk_at "bag") lstS (BagAt.ne' (K := K) (by assumption) (by walk_at "bag")) ?_ (by decide) (by decide) fun v q H' hq hm hb' e => ?_
      · unfold nine
        refine Ams.cons (am_lit _ _ (by walk_at "sq")) (Ams.cons (am_lit _ _ (by walk_at "sq")) (Ams.cons (am_lit _ _ (by walk_at "sq")) (Ams.cons (am_lit _ _ (by walk_at "sq")) (Ams.cons (am_lit _ _ (by walk_at "sq")) (Ams.cons (am_lit _ _ (by walk_at "sq")) (Ams.cons (am_lit _ _ (by walk_at "sq")) (Ams.cons (am_lit _ _ (by walk_at "sq")) (Ams.cons (am_lit _ _ (by walk_at "sq")) Ams.nil))))))))
      · refine k v q H' hm (nine_all q hq).1 (nine_all q hq).2 hb' (Ext.trans ?_ e)
        walk_at "ext"
    · walk_at "go"
      refine r_dec (fun h5 => ?_) (fun h5 => ?_)
      · walk_at "go"
        refine ⟨b, _, rfl, by decide, by decide, b1, fun x2 H2 l2 u2 b2 n2 => ?_⟩
        walk_at "go"
        refine ⟨b, _, rfl, by decide, by decide, b2, fun x3 H3 l3 u3 b3 n3 => ?_⟩
        walk_at "go"
        exact pk _ _ _ l2 (Int.lt_trans u2 (by decide)) (by omega) (Int.lt_trans (by omega : 1 + x3 < 14) (by decide)) b3 ((n1.trans n2).trans n3)
      · walk_at "go"
        refine r_dec (fun h5 => ?_) (fun h5 => ?_)
        · walk_at "go"
          refine ⟨b, _, rfl, by decide, by decide, b1, fun x2 H2 l2 u2 b2 n2 => ?_⟩
          walk_at "go"
          refine ⟨b, _, rfl, by decide, by decide, b2, fun x3 H3 l3 u3 b3 n3 => ?_⟩
          walk_at "go"
          rw [e9] at u2 u3
          exact pk _ _ _ l2 (Int.lt_trans u2 (by decide)) (by omega) (Int.lt_trans (by omega : 1 + x3 < 10000000000) (by decide)) b3 ((n1.trans n2).trans n3)
        · walk_at "go"
          refine r_dec (fun h5 => ?_) (fun h5 => ?_)
          · walk_at "go"
            refine ⟨b, rfl, b1, fun x2 H2 l2 u2 b2 n2 => ?_⟩
            walk_at "go"
            refine ⟨b, _, rfl, by decide, by decide, b2, fun x3 H3 l3 u3 b3 n3 => ?_⟩
            walk_at "go"
            exact pk _ _ _ l2 u2 (by omega) (Int.lt_trans (by omega : 1 + x3 < 14) (by decide)) b3 ((n1.trans n2).trans n3)
          · walk_at "go"
            refine ⟨b, rfl, b1, fun x2 H2 l2 u2 b2 n2 => ?_⟩
            walk_at "go"
            refine ⟨b, rfl, b2, fun x3 H3 l3 u3 b3 n3 => ?_⟩
            refine ⟨_, _, rfl, ?_⟩
            walk_at "go"
            exact pk _ _ _ l2 u2 (by split <;> omega) (by split <;> omega) b3 ((n1.trans n2).trans n3)
end
end Yk

set_option maxHeartbeats 4000000
namespace Yk
open PySem PySem.Spec PyProof.Rows L2

section
variable {P : Program} {w : World} {K : PySem.W.Frag} {mg : Str → Option Value} {base : Heap} {f : Addr} {fd : FuncData}
theorem perm_erase : ∀ {xs : List V} {i : Nat} (h : i < xs.length), (xs[i] :: xs.eraseIdx i).Perm xs
  | a :: r, 0, _ => List.Perm.refl _
  | a :: r, i + 1, h => ((List.Perm.swap a _ _)).trans ((perm_erase (xs := r) (i := i) (by simpa using h)).cons a)
/-- a new list with the same things -/
def spMixed (K : PySem.W.Frag) : Sp := fun vs H Q _ => ∃ (b : Bag) (l : Addr) (xs : List V), vs = [.ref b.a, .ref l] ∧ BagAt K H b ∧ SqL K H l xs ∧ b.a ≠ l ∧ xs.length ≤ 4000 ∧ ∀ (p : Addr) (ys : List V) H', ys.Perm xs → H p = none → H' p = some (.lst ys) → BagAt K H' b → Ext [b.a] H H' → Q (.ref p) H'
abbrev s_law_mixed : Stmt := top 42
theorem c_law_mixed : FnScope ["_law_bag_here", "_law_things", "_law_pool", "_law_k"] ["_law_bag_here", "_law_things"] (defScope s_law_mixed) := ⟨rfl, rfl, rfl, by decide +kernel, rfl, by decide +kernel, by decide +kernel⟩
theorem f_law_mixed (F : FunD K "_law_mixed" "_law_mixed" (defArgs s_law_mixed) (defBody s_law_mixed) (defScope s_law_mixed) [] [] f fd) (hm : mg "_law_mixed" = some (.ref f)) (T : Bt mg) (F_law_draw : Fn P w K mg base 1 "_law_draw" (spDraw K)) : Fn P w K mg base 2 "_law_mixed" (spMixed K) := by
  refine fn_def F hm c_law_mixed (fun vs H Q E h => ?_) (fun _ _ _ _ _ _ us hl => match us, hl with | [_, _], _ => rfl) (fun cdv A outer s H vs Q E hr h => ?_)
  · obtain ⟨b, l, xs, rfl, _⟩ := h
    rfl
  · obtain ⟨b, l, xs, rfl, hb, hl, hne, h4, k⟩ := h
    have nd := c_law_mixed.nd
    refine ⟨_, (pss_cons (ps_set (i := 2) nd rfl (by first | exact Or.inl rfl | exact Or.inr rfl) (pe_callTy cr_list (by rfl) T.list (by decide +kernel) (pa_cons (pv 1) pa_nil)))
      (pss_one (ps_ret (pe_lc (own := [("_law_k", 3)]) (g := gName 3) rfl nd (pi_range1 rfl T.range (pa_cons (pe_callB cr_len (by rfl) T.len (by decide +kernel) (pa_cons (pv 2) pa_nil)) pa_nil)) (blkOk_by (N := ["_law_bag_here", "_law_things", "_law_pool", "_law_k"]) (sc := defScope s_law_mixed) (by decide +kernel)) (fun _ _ _ _ _ => pg_name (i := 3) nd rfl (Or.inl rfl)) (fun _ _ _ _ _ => pts_nil) (fun _ _ _ _ _ => (pe_bm PySem.F.plainAttrs_list PySem.F.slot_list_pop PySem.F.type_list_pop mt_popAt (pv 2) (pa_cons (pe_fn F_law_draw (hr.mono (by decide)) (pa_cons (pv 0) (pa_cons (pe_callB cr_len (by rfl) T.len (by decide +kernel) (pa_cons (pv 2) pa_nil) : PE _ _ (tCB (rLn K) _)) pa_nil))) pa_nil) : PE _ _ (tBM K _ _ _ _))))))), ?_⟩
    show (_ : TS) _ [some _, some _, none, none] _
    try dsimp only [cxOf, Cx.nox]
    walk_at "go"
    refine r_list (.inl hl) fun p hp => ?_
    walk_at "go"
    have nbp : p ≠ b.a := fun z => hb.ne hp z.symm
    refine ⟨_, rfl, by omega, by omega, fun D hD => ?_⟩
    have hDp : D ≠ p := fun z => by rw [z, upd_same] at hD; cases hD
    have hD0 : H D = none := by rw [upd_ne hDp] at hD; exact hD
    have nbD : D ≠ b.a := fun z => hb.ne hD0 z.symm
    refine r_lcR (n := xs.length) (fun i H1 => ∃ pool ys : List V, H1 p = some (.lst pool) ∧ H1 D = some (.lst ys) ∧ pool.length + i = xs.length ∧ (ys ++ pool).Perm xs ∧ BagAt K H1 b ∧ Ext [b.a] H H1)
      ⟨xs, [], by rw [upd_ne hDp.symm]; exact upd_same, upd_same, rfl, List.Perm.refl _, (hb.new hp).new hD, (Ext.refl.new hp).new hD⟩ ?_ ?_
    · rintro i H1 hi ⟨pool, ys, hpool, hys, hlen, hperm, hb1, e1⟩
      walk_at "go"
      refine ⟨rfl, ?_⟩
      walk_at "go"
      refine ⟨.inl ⟨rfl, _, .inl (.inl hpool)⟩, ?_⟩
      walk_at "go"
      try refine r_len (.inl (.inl (.inl hpool))) ?_
      walk_at "go"
      refine ⟨b, _, rfl, by omega, Int.lt_of_le_of_lt (by omega : (pool.length : Int) ≤ 4000) (by decide), hb1, fun x H2 x0 x1 hb2 e2 => ?_⟩
      walk_at "go"
      have hx : x.toNat < pool.length := by omega
      have hp2 : H2 p = some (.lst pool) := e2 _ _ hpool (by simpa using nbp)
      have hD2 : H2 D = some (.lst ys) := e2 _ _ hys (by simpa using nbD)
      refine r_popAt hp2 (by omega : x = ((x.toNat : Nat) : Int)) (List.getElem?_eq_getElem hx) (by omega) ?_
      have hl : ys.length ≤ 4000 := by have := hperm.length_eq; simp at this; omega
      refine ⟨ys, by rw [upd_ne hDp]; exact hD2, Nat.lt_of_le_of_lt hl (by decide), pool.eraseIdx x.toNat, ys ++ [pool[x.toNat]], ?_, upd_same, ?_, ?_, ?_, ?_⟩
      · rw [upd_ne hDp.symm]; exact upd_same
      · rw [List.length_eraseIdx_of_lt hx]; omega
      · refine List.Perm.trans ?_ hperm
        rw [List.append_assoc]
        exact (perm_erase hx).append_left ys
      · exact hb.own hD0 (hb.own hp hb2)
      · exact ((e1.trans e2).own hp).own hD0
    · rintro H1 ⟨pool, ys, hpool, hys, hlen, hperm, hb1, e1⟩
      have hz : pool = [] := List.length_eq_zero_iff.mp (by omega)
      subst hz
      rw [List.append_nil] at hperm
      exact k D ys H1 hperm hD0 hys hb1 e1
end
end Yk

set_option maxHeartbeats 4000000
namespace Yk
open PySem PySem.Spec PyProof.Rows L2

section
variable {P : Program} {w : World} {K : PySem.W.Frag} {mg : Str → Option Value} {base : Heap} {f : Addr} {fd : FuncData}
/-- two rows of one length, from three to six -/
theorem row_cases {C : List V → List Rat → Prop} {xs : List V} {qs : List Rat} (hl : xs.length = qs.length) (h3 : 3 ≤ qs.length) (h6 : qs.length ≤ 6)
    (c3 : ∀ v0 v1 v2 q0 q1 q2, C [v0, v1, v2] [q0, q1, q2]) (c4 : ∀ v0 v1 v2 v3 q0 q1 q2 q3, C [v0, v1, v2, v3] [q0, q1, q2, q3])
    (c5 : ∀ v0 v1 v2 v3 v4 q0 q1 q2 q3 q4, C [v0, v1, v2, v3, v4] [q0, q1, q2, q3, q4]) (c6 : ∀ v0 v1 v2 v3 v4 v5 q0 q1 q2 q3 q4 q5, C [v0, v1, v2, v3, v4, v5] [q0, q1, q2, q3, q4, q5]) : C xs qs := by
  match xs, qs, hl, h3, h6 with
  | [], qs, h, h3, _ => simp at h; omega
  | [_], qs, h, h3, _ => simp at h; omega
  | [_, _], qs, h, h3, _ => simp at h; omega
  | [v0, v1, v2], [q0, q1, q2], _, _, _ => exact c3 ..
  | [v0, v1, v2, v3], [q0, q1, q2, q3], _, _, _ => exact c4 ..
  | [v0, v1, v2, v3, v4], [q0, q1, q2, q3, q4], _, _, _ => exact c5 ..
  | [v0, v1, v2, v3, v4, v5], [q0, q1, q2, q3, q4, q5], _, _, _ => exact c6 ..
  | _ :: _ :: _ :: _ :: _ :: _ :: _ :: _, _ :: _ :: _ :: _ :: _ :: _ :: _ :: _, _, _, h => simp at h; try omega
def spSums (K : PySem.W.Frag) : Sp := fun vs H Q _ => ∃ r xs qs, vs = [V.ref r] ∧ SqL K H r xs ∧ Ams K H xs qs ∧ 3 ≤ qs.length ∧ qs.length ≤ 6 ∧ (∀ q ∈ qs, Sz 114 q) ∧ RetAm K H Q (sumQ qs)
def spEnds (K : PySem.W.Frag) : Sp := fun vs H Q _ => ∃ r xs q0 qs, vs = [V.ref r] ∧ SqL K H r xs ∧ Ams K H xs (q0 :: qs) ∧ 3 ≤ (q0 :: qs).length ∧ (q0 :: qs).length ≤ 6 ∧ (∀ q ∈ q0 :: qs, Sz 114 q) ∧
  ∀ p v1 v2 H', H p = none → H' p = some (.lst [v1, v2]) → Am K H' v1 (minQ q0 qs) → Am K H' v2 (maxQ q0 qs) → Ext [] H H' → Q (.ref p) H'
def endsK (K : PySem.W.Frag) (H : Hp) (Q : VK) (qs : List Rat) : Prop := ∀ p v1 v2 H', H p = none → H' p = some (.lst [v1, v2]) → Am K H' v1 (minQ (qs.headD 0) qs.tail) → Am K H' v2 (maxQ (qs.headD 0) qs.tail) → Ext [] H H' → Q (.ref p) H'
end
end Yk

set_option maxHeartbeats 4000000
namespace Yk
open PySem PySem.Spec PyProof.Rows L2

section
variable {P : Program} {w : World} {K : PySem.W.Frag} {mg : Str → Option Value} {base : Heap} {f : Addr} {fd : FuncData}
/-! rows by their sizes, in any order -/
inductive Szs : Nat → List Rat → Prop where
  | nil : Szs 0 []
  | cons {m B : Nat} {q : Rat} {ps : List Rat} (h : Sz m q) (r : Szs B ps) : Szs (B + (m + 1)) (q :: ps)
theorem Szs.perm {l l' : List Rat} (p : l.Perm l') : ∀ {B : Nat}, Szs B l → Szs B l' := by
  induction p with
  | nil => exact fun h => h
  | cons x _ ih =>
    intro B h
    cases h with
    | cons h r => exact .cons h (ih r)
  | swap x y l =>
    intro B h
    cases h with
    | cons h r =>
      cases r with
      | cons h2 r =>
        rename_i m1 m2 B2
        have := Szs.cons h2 (Szs.cons h r)
        rw [show B2 + (m2 + 1) + (m1 + 1) = B2 + (m1 + 1) + (m2 + 1) by omega]
        exact this
  | trans _ _ ih1 ih2 => exact fun h => ih2 (ih1 h)
theorem Szs.all : ∀ {l : List Rat} {m : Nat}, (∀ q ∈ l, Sz m q) → Szs (l.length * (m + 1)) l
  | [], m, _ => by simpa using Szs.nil
  | q :: r, m, h => by
    have := Szs.cons (h q List.mem_cons_self) (Szs.all (l := r) (m := m) fun x hx => h x (List.mem_cons_of_mem _ hx))
    rw [List.length_cons, Nat.add_mul, Nat.one_mul]
    exact this
def opR (g : Rat → Rat → Rat) (z : Rat) (l : List Rat) : Rat := l.foldr g z
theorem opR_perm {g : Rat → Rat → Rat} {z : Rat} (hg : ∀ a b c, g a (g b c) = g b (g a c)) {l l' : List Rat} (p : l.Perm l') : opR g z l = opR g z l' := by
  induction p with
  | nil => rfl
  | cons x _ ih => exact congrArg (g x) ih
  | swap x y l => exact hg _ _ _
  | trans _ _ h1 h2 => exact h1.trans h2
theorem sumQ_R (l : List Rat) : sumQ l = opR (· + ·) 0 l := by
  have h : ∀ (l : List Rat) (z : Rat), l.foldl (· + ·) z = z + opR (· + ·) 0 l := by
    intro l
    induction l with
    | nil => intro z; show z = z + 0; rw [Rat.add_zero]
    | cons a r ih =>
      intro z
      show r.foldl (· + ·) (z + a) = z + (a + opR (· + ·) 0 r)
      rw [ih, Rat.add_assoc]
  unfold sumQ
  rw [h, Rat.zero_add]
theorem sumQ_perm {l l' : List Rat} (p : l.Perm l') : sumQ l = sumQ l' := by
  rw [sumQ_R, sumQ_R]
  exact opR_perm (fun a b c => by rw [← Rat.add_assoc, Rat.add_comm a b, Rat.add_assoc]) p
def prodQ (qs : List Rat) : Rat := qs.foldl (· * ·) 1
theorem prodQ_R (l : List Rat) : prodQ l = opR (· * ·) 1 l := by
  have h : ∀ (l : List Rat) (z : Rat), l.foldl (· * ·) z = z * opR (· * ·) 1 l := by
    intro l
    induction l with
    | nil => intro z; show z = z * 1; rw [Rat.mul_one]
    | cons a r ih =>
      intro z
      show r.foldl (· * ·) (z * a) = z * (a * opR (· * ·) 1 r)
      rw [ih, Rat.mul_assoc]
  unfold prodQ
  rw [h, Rat.one_mul]
theorem Ams.erase {H : Hp} {xs : List V} {qs : List Rat} (h : Ams K H xs qs) (i : Nat) : Ams K H (xs.eraseIdx i) (qs.eraseIdx i) := by
  refine ⟨by rw [List.length_eraseIdx, List.length_eraseIdx, h.1], fun j v q a b => ?_⟩
  rw [List.getElem?_eraseIdx] at a b
  split at a
  · rename_i hj
    rw [if_pos hj] at b
    exact h.2 j v q a b
  · rename_i hj
    rw [if_neg hj] at b
    exact h.2 (j + 1) v q a b
theorem Ams.app {H : Hp} {xs ys : List V} {qs rs : List Rat} (h : Ams K H xs qs) (r : Ams K H ys rs) : Ams K H (xs ++ ys) (qs ++ rs) := by
  refine ⟨by rw [List.length_append, List.length_append, h.1, r.1], fun j v q a b => ?_⟩
  by_cases hj : j < xs.length
  · rw [List.getElem?_append_left hj] at a
    rw [List.getElem?_append_left (by rw [← h.1]; exact hj)] at b
    exact h.2 j v q a b
  · rw [List.getElem?_append_right (by omega)] at a
    rw [List.getElem?_append_right (by rw [← h.1]; omega), ← h.1] at b
    exact r.2 _ v q a b
theorem Ams.take {H : Hp} {xs : List V} {qs : List Rat} (h : Ams K H xs qs) (n : Nat) : Ams K H (xs.take n) (qs.take n) := by
  refine ⟨by rw [List.length_take, List.length_take, h.1], fun j v q a b => ?_⟩
  rw [List.getElem?_take] at a b
  split at a
  · rename_i hj
    rw [if_pos hj] at b
    exact h.2 j v q a b
  · cases a
theorem Ams.drop {H : Hp} {xs : List V} {qs : List Rat} (h : Ams K H xs qs) (n : Nat) : Ams K H (xs.drop n) (qs.drop n) := by
  refine ⟨by rw [List.length_drop, List.length_drop, h.1], fun j v q a b => ?_⟩
  rw [List.getElem?_drop] at a b
  exact h.2 _ v q a b
theorem permR : ∀ {xs : List Rat} {i : Nat} (h : i < xs.length), (xs[i] :: xs.eraseIdx i).Perm xs
  | a :: r, 0, _ => List.Perm.refl _
  | a :: r, i + 1, h => ((List.Perm.swap a _ _)).trans ((permR (xs := r) (i := i) (by simpa using h)).cons a)
theorem permI (xs : List Rat) (z : Rat) (k : Nat) : (xs.take k ++ [z] ++ xs.drop k).Perm (z :: xs) := by
  have h : (xs.take k ++ z :: xs.drop k).Perm (z :: (xs.take k ++ xs.drop k)) := List.perm_middle
  rw [List.take_append_drop] at h
  rw [List.append_assoc]
  exact h
/-- a pair put together: its value, its size -/
structure Join (g : Rat → Rat → Rat) (z : Rat) : Prop where
  swap : ∀ a b c, g a (g b c) = g b (g a c)
  assoc : ∀ a b c, g (g a b) c = g a (g b c)
  one : ∀ a, g a z = a
  sz : ∀ {m n : Nat} {a b : Rat}, Sz m a → Sz n b → Sz (m + n + 1) (g a b)
theorem join_add : Join (· + ·) 0 := ⟨fun a b c => by show a + (b + c) = b + (a + c); rw [← Rat.add_assoc, Rat.add_comm a b, Rat.add_assoc], fun a b c => Rat.add_assoc a b c, fun a => Rat.add_zero a, sz_add⟩
theorem join_mul : Join (· * ·) 1 := ⟨fun a b c => by show a * (b * c) = b * (a * c); rw [← Rat.mul_assoc, Rat.mul_comm a b, Rat.mul_assoc], fun a b c => Rat.mul_assoc a b c, fun a => Rat.mul_one a, fun h1 h2 => (sz_mul h1 h2).mono (by omega)⟩
theorem Join.two {g : Rat → Rat → Rat} {z : Rat} (J : Join g z) (a b : Rat) (l : List Rat) : opR g z (a :: b :: l) = opR g z (g a b :: l) := (J.assoc a b _).symm
theorem Join.sz2 {g : Rat → Rat → Rat} {z : Rat} (J : Join g z) {a b : Rat} {l : List Rat} {B : Nat} (h : Szs B (a :: b :: l)) : Szs B (g a b :: l) := by
  cases h with
  | cons h1 r =>
    cases r with
    | cons h2 r =>
      rename_i m1 m2 B2
      have := Szs.cons (J.sz h1 h2) r
      rw [show B2 + (m2 + 1) + (m1 + 1) = B2 + (m1 + m2 + 1 + 1) by omega]
      exact this
theorem Szs.hd {B : Nat} {a : Rat} {l : List Rat} (h : Szs B (a :: l)) : Sz B a := by
  cases h with
  | cons h1 r => exact h1.mono (by omega)
theorem Szs.tl {B : Nat} {a : Rat} {l : List Rat} (h : Szs B (a :: l)) : ∃ B', B' ≤ B ∧ Szs B' l := by
  cases h with
  | cons h1 r => exact ⟨_, by omega, r⟩
def gop (c : Bool) : Rat → Rat → Rat := if c then (· + ·) else (· * ·)
def gun (c : Bool) : Rat := if c then 0 else 1
theorem join_of (c : Bool) : Join (gop c) (gun c) := by
  cases c
  · exact join_mul
  · exact join_add
def spGrouped (K : PySem.W.Frag) : Sp := fun vs H Q _ => ∃ (b : Bag) (r : Addr) (c : Bool) (xs : List V) (qs : List Rat), vs = [.ref b.a, .ref r, .bl c] ∧ BagAt K H b ∧ SqL K H r xs ∧ b.a ≠ r ∧ Ams K H xs qs ∧ 1 ≤ qs.length ∧ qs.length ≤ 6 ∧ (∀ q ∈ qs, Sz 114 q) ∧
  ∀ v H', Am K H' v (opR (gop c) (gun c) qs) → BagAt K H' b → Ext [b.a] H H' → Q v H'
end
end Yk

set_option maxHeartbeats 4000000
namespace Yk
open PySem PySem.Spec PyProof.Rows L2

/-- the same data, so deep -/
inductive Eqd (K : PySem.W.Frag) (H : Hp) : Nat → V → V → Prop where
  | non (n : Nat) : Eqd K H n .non .non
  | bl (n : Nat) (b : Bool) : Eqd K H n (.bl b) (.bl b)
  | int (n : Nat) (i : Int) : Eqd K H n (.int i) (.int i)
  | str (n : Nat) (z : Str) : Eqd K H n (.str z) (.str z)
  | tup {n : Nat} {a b : Addr} {xs ys : List V} (ha : SqT K H a xs) (hb : SqT K H b ys) (hl : xs.length = ys.length) (h4 : xs.length ≤ 4000) (h : ∀ (i : Nat) (x y : V), xs[i]? = some x → ys[i]? = some y → Eqd K H n x y) : Eqd K H (n + 1) (.ref a) (.ref b)
  | lst {n : Nat} {a b : Addr} {xs ys : List V} (ha : SqL K H a xs) (hb : SqL K H b ys) (hl : xs.length = ys.length) (h4 : xs.length ≤ 4000) (h : ∀ (i : Nat) (x y : V), xs[i]? = some x → ys[i]? = some y → Eqd K H n x y) : Eqd K H (n + 1) (.ref a) (.ref b)
theorem Eqd.x0 {K : PySem.W.Frag} {H H1 : Hp} (e : Ext [] H H1) {n : Nat} {v w : V} (h : Eqd K H n v w) : Eqd K H1 n v w := by
  induction h with
  | non n => exact .non n
  | bl n b => exact .bl n b
  | int n i => exact .int n i
  | str n z => exact .str n z
  | tup ha hb hl h4 _ ih => exact .tup (tup0 e ha) (tup0 e hb) hl h4 ih
  | lst ha hb hl h4 _ ih => exact .lst (lst0 e ha) (lst0 e hb) hl h4 ih
theorem Am.eqd {K : PySem.W.Frag} {H : Hp} {v w : V} {q : Rat} (n : Nat) (h1 : Am K H v q) (h2 : Am K H w q) : Eqd K H (n + 1) v w := by
  obtain ⟨a, rfl, h1⟩ := h1
  obtain ⟨b, rfl, h2⟩ := h2
  refine .tup h1 h2 rfl (by simp) fun i x y hx hy => ?_
  rw [hx] at hy
  cases hy
  match i, hx with
  | 0, hx => cases hx; exact .int _ _
  | 1, hx => cases hx; exact .int _ _
  | i + 2, hx => cases hx
def spLike (K : PySem.W.Frag) : Nat → Sp
  | 0 => fun _ _ _ _ => False
  | n + 1 => fun vs H Q _ => ∃ v1 v2, vs = [v1, v2] ∧ Eqd K H n v1 v2 ∧ ∀ H', Ext [] H H' → Q (.bl true) H'
section
variable {P : Program} {w : World} {K : PySem.W.Frag} {mg : Str → Option Value} {base : Heap} {f : Addr} {fd : FuncData}
abbrev s_law_like : Stmt := top 22
theorem c_law_like : FnScope ["_law_told", "_law_due", "_law_a", "_law_b"] ["_law_told", "_law_due"] (defScope s_law_like) := ⟨rfl, rfl, rfl, by decide +kernel, rfl, by decide +kernel, by decide +kernel⟩
theorem f_law_like (F : FunD K "_law_like" "_law_like" (defArgs s_law_like) (defBody s_law_like) (defScope s_law_like) [] [] f fd) (hm : mg "_law_like" = some (.ref f)) (T : Bt mg) (n : Nat) (F_law_like : Fn P w K mg base n "_law_like" (spLike K n)) : Fn P w K mg base (n+1) "_law_like" (spLike K (n + 1)) := by
  refine fn_def F hm c_law_like (fun vs H Q E h => ?_) (fun _ _ _ _ _ _ us hl => match us, hl with | [_, _], _ => rfl) (fun cdv A outer s H vs Q E hr h => ?_)
  · obtain ⟨v1, v2, rfl, _⟩ := h
    rfl
  · obtain ⟨v1, v2, rfl, he, k⟩ := h
    have nd := c_law_like.nd
    refine ⟨_, (pss_cons (ps_if (pt_val (pe_callB call_isiT (by rfl) T.isinstance (by decide +kernel) (pa_cons (pv 1) (pa_cons (pe_tup (pa_cons (pe_bltn (v := .ty "list") (by rfl) T.list (by decide +kernel) rfl) (pa_cons (pe_bltn (v := .ty "tuple") (by rfl) T.tuple (by decide +kernel) rfl) pa_nil))) pa_nil))))
        (pss_cons (ps_if (PW.pt (pw_or (pt_cmpR op_ne (pe_callB call_isi (by rfl) T.isinstance (by decide +kernel) (pa_cons (pv 0) (pa_cons (pe_bltn (v := .ty "list") (by rfl) T.list (by decide +kernel) rfl) pa_nil))) (pe_callB call_isi (by rfl) T.isinstance (by decide +kernel) (pa_cons (pv 1) (pa_cons (pe_bltn (v := .ty "list") (by rfl) T.list (by decide +kernel) rfl) pa_nil))) (nomark _)) (pw_or1 (pt_cmpR op_ne (pe_callB call_isi (by rfl) T.isinstance (by decide +kernel) (pa_cons (pv 0) (pa_cons (pe_bltn (v := .ty "tuple") (by rfl) T.tuple (by decide +kernel) rfl) pa_nil))) (pe_callB call_isi (by rfl) T.isinstance (by decide +kernel) (pa_cons (pv 1) (pa_cons (pe_bltn (v := .ty "tuple") (by rfl) T.tuple (by decide +kernel) rfl) pa_nil))) (nomark _)))))
          (pss_one (ps_ret pe_bl))
          pss_nil)
        (pss_one (ps_ret (pe_and (pe_cmpR op_eq (pe_callB cr_len (by rfl) T.len (by decide +kernel) (pa_cons (pv 0) pa_nil)) (pe_callB cr_len (by rfl) T.len (by decide +kernel) (pa_cons (pv 1) pa_nil)) (nomark _)) (pe_one (pe_callB (cr_all rfl) (by rfl) T.all (by decide +kernel) (pa_cons (pe_lc (own := [("_law_a", 2), ("_law_b", 3)])  rfl nd (RZ.pi_zipA (by rfl) T.zip (pa_cons (pv 0) (pa_cons (pv 1) pa_nil))) (blkOk_by (N := ["_law_told", "_law_due", "_law_a", "_law_b"]) (sc := defScope s_law_like) (by decide +kernel)) (fun _ _ _ _ _ => (pg_tup (n := 2) rfl (pgs_cons (pg_name (i := 2) nd rfl (Or.inl rfl)) (pgs_cons (pg_name (i := 3) nd rfl (Or.inl rfl)) pgs_nil)) : PG _ _ (gTup K 2 _))) (fun _ _ _ _ _ => pts_nil) (fun _ _ _ _ _ => (pe_fn F_law_like (hr.mono (Nat.le_refl _)) (pa_cons (pv 2) (pa_cons (pv 3) pa_nil))))) pa_nil)))))))
        pss_nil)
      (pss_cons (ps_if (PW.pt (pw_or (pt_cmpR op_isN (pv 1) pe_non (nomark _)) (pw_or1 (pt_cmpR op_isN (pv 0) pe_non (nomark _)))))
        (pss_one (ps_ret (pe_and (pe_cmpR op_isN (pv 1) pe_non (nomark _)) (pe_one (pe_cmpR op_isN (pv 0) pe_non (nomark _))))))
        pss_nil)
      (pss_cons (ps_if (PW.pt (pw_or (pt_val (pe_callB call_isiT (by rfl) T.isinstance (by decide +kernel) (pa_cons (pv 0) (pa_cons (pe_tup (pa_cons (pe_bltn (v := .ty "list") (by rfl) T.list (by decide +kernel) rfl) (pa_cons (pe_bltn (v := .ty "tuple") (by rfl) T.tuple (by decide +kernel) rfl) pa_nil))) pa_nil)))) (pw_or1 (pt_cmpR op_ne (pe_callB call_isi (by rfl) T.isinstance (by decide +kernel) (pa_cons (pv 0) (pa_cons (pe_bltn (v := .ty "bool") (by rfl) T.bool (by decide +kernel) rfl) pa_nil))) (pe_callB call_isi (by rfl) T.isinstance (by decide +kernel) (pa_cons (pv 1) (pa_cons (pe_bltn (v := .ty "bool") (by rfl) T.bool (by decide +kernel) rfl) pa_nil))) (nomark _)))))
        (pss_one (ps_ret pe_bl))
        pss_nil)
      (pss_cons (ps_if (PW.pt (pw_or (pt_cmpR op_ne (pe_callB call_isi (by rfl) T.isinstance (by decide +kernel) (pa_cons (pv 0) (pa_cons (pe_bltn (v := .ty "str") (by rfl) T.str (by decide +kernel) rfl) pa_nil))) (pe_callB call_isi (by rfl) T.isinstance (by decide +kernel) (pa_cons (pv 1) (pa_cons (pe_bltn (v := .ty "str") (by rfl) T.str (by decide +kernel) rfl) pa_nil))) (nomark _)) (pw_or1 (pt_cmpR op_ne (pe_callB call_isi (by rfl) T.isinstance (by decide +kernel) (pa_cons (pv 0) (pa_cons (pe_bltn (v := .ty "int") (by rfl) T.int (by decide +kernel) rfl) pa_nil))) (pe_callB call_isi (by rfl) T.isinstance (by decide +kernel) (pa_cons (pv 1) (pa_cons (pe_bltn (v := .ty "int") (by rfl) T.int (by decide +kernel) rfl) pa_nil))) (nomark _)))))
        (pss_one (ps_ret pe_bl))
        pss_nil)
      (pss_one (ps_ret (pe_cmpR op_eq (pv 0) (pv 1) (nomark _)))))))), ?_⟩
    show (_ : TS) _ [some _, some _, none, none] _
    try dsimp only [cxOf, Cx.nox]
    cases he with
    | non n =>
      walk_at "run"
      exact k _ (by walk_at "ext")
    | bl n b =>
      walk_at "run"
      rw [decide_eq_true rfl]
      exact k _ (by walk_at "ext")
    | int n i =>
      walk_at "run"
      rw [decide_eq_true rfl]
      exact k _ (by walk_at "ext")
    | str n z =>
      walk_at "run"
      rw [decide_eq_true rfl]
      exact k _ (by walk_at "ext")
    | @tup n a b xs ys ha hb hl h4 h =>
      walk_at "run"
      refine r_true (len_is (by rw [hl])) ?_
      walk_at "run"
      refine ⟨a, b, xs, ys, rfl, .inr ⟨by walk_at "sq", by walk_at "sq", fun D hD => ?_⟩⟩
      generalize hH : upd H _ _ = H0 at *
      have e0 : Ext [] H H0 := by
        rw [← hH]
        walk_at "ext"
      refine r_lcZT hl (fun i H1 => Ext [] H0 H1 ∧ H1 D = some (.lst ((List.replicate i true).map V.bl))) ⟨Ext.refl.new hD, upd_same⟩ (fun i H1 p => ⟨tup0 (e0.trans p.1) ha, tup0 (e0.trans p.1) hb⟩) ?_ ?_
      · rintro i x y T H1 hx hy ⟨e1, hD1⟩ hT
        walk_at "run"
        refine ⟨rfl, ?_⟩
        walk_at "run"
        have hi : i < xs.length := (List.getElem?_eq_some_iff.mp hx).1
        have e2 : Ext [] H0 (upd H1 T (.tup [x, y])) := e1.new hT
        refine ⟨x, y, rfl, (h i x y hx hy).x0 (e0.trans e2), fun H2 e3 => ?_⟩
        have hD2 : H2 D = some (.lst ((List.replicate i true).map V.bl)) := e3 _ _ (by rw [upd_ne (ne_of_none hD1 hT)]; exact hD1) fun z => nomatch z
        refine ⟨_, hD2, ?_, (e2.trans e3).own hD, ?_⟩
        · rw [List.length_map, List.length_replicate]
          exact Nat.lt_of_le_of_lt (by omega : i ≤ 4000) (by decide)
        · rw [List.replicate_succ', List.map_append]
          exact upd_same
      · rintro H1 ⟨e1, hD1⟩
        walk_at "run"
        refine r_all (bs := List.replicate xs.length true) (.inl (.inl hD1)) ?_
        rw [show (List.replicate xs.length true).all id = true by simp]
        exact k _ (e0.trans e1)
    | @lst n a b xs ys ha hb hl h4 h =>
      walk_at "run"
      refine r_true (len_is (by rw [hl])) ?_
      walk_at "run"
      refine ⟨a, b, xs, ys, rfl, .inl ⟨by walk_at "sq", by walk_at "sq", fun D hD => ?_⟩⟩
      generalize hH : upd H _ _ = H0 at *
      have e0 : Ext [] H H0 := by
        rw [← hH]
        walk_at "ext"
      refine r_lcZL hl (fun i H1 => Ext [] H0 H1 ∧ H1 D = some (.lst ((List.replicate i true).map V.bl))) ⟨Ext.refl.new hD, upd_same⟩ (fun i H1 p => ⟨lst0 (e0.trans p.1) ha, lst0 (e0.trans p.1) hb⟩) ?_ ?_
      · rintro i x y T H1 hx hy ⟨e1, hD1⟩ hT
        walk_at "run"
        refine ⟨rfl, ?_⟩
        walk_at "run"
        have hi : i < xs.length := (List.getElem?_eq_some_iff.mp hx).1
        have e2 : Ext [] H0 (upd H1 T (.tup [x, y])) := e1.new hT
        refine ⟨x, y, rfl, (h i x y hx hy).x0 (e0.trans e2), fun H2 e3 => ?_⟩
        have hD2 : H2 D = some (.lst ((List.replicate i true).map V.bl)) := e3 _ _ (by rw [upd_ne (ne_of_none hD1 hT)]; exact hD1) fun z => nomatch z
        refine ⟨_, hD2, ?_, (e2.trans e3).own hD, ?_⟩
        · rw [List.length_map, List.length_replicate]
          exact Nat.lt_of_le_of_lt (by omega : i ≤ 4000) (by decide)
        · rw [List.replicate_succ', List.map_append]
          exact upd_same
      · rintro H1 ⟨e1, hD1⟩
        walk_at "run"
        refine r_all (bs := List.replicate xs.length true) (.inl (.inl hD1)) ?_
        rw [show (List.replicate xs.length true).all id = true by simp]
        exact k _ (e0.trans e1)
end
end Yk

set_option maxHeartbeats 4000000
namespace Yk
open PySem PySem.Spec PyProof.Rows L2 TL

section
variable {P : Program} {w : World} {K : PySem.W.Frag} {mg : Str → Option Value} {base : Heap} {f : Addr} {fd : FuncData}
def spNumText (K : PySem.W.Frag) : Sp := fun vs H Q _ => ∃ n : Nat, vs = [.int (n : Int)] ∧ n < 2 ^ 1900 ∧ ∀ H', Ext [] H H' → Q (.str (nt n)) H'
def spIsNum (K : PySem.W.Frag) : Sp := fun vs H Q _ => ∃ n : Int, vs = [.int n] ∧ Q (.bl true) H
def spIsAm (K : PySem.W.Frag) : Sp := fun vs H Q _ => ∃ (v : V) (q : Rat), vs = [v] ∧ Am K H v q ∧ 0 ≤ q ∧ Q (.bl true) H
end
end Yk

set_option maxHeartbeats 4000000
namespace Yk
open PySem PySem.Spec PyProof.Rows L2 TL

section
variable {σ : L2.St} {H : Hp} {Q : VK} {te : TE}
theorem r_js {t : TE} {ts : List TE} {acc : Str} {R : Str → Hp → Prop} (h : t σ H fun x H1 => ∃ y : Str, x = .str y ∧ (acc ++ y).length ≤ sizeLine ∧ tJs ts (acc ++ y) σ H1 R) : tJs (t :: ts) acc σ H R := h
theorem r_M1 {r : V → List V → Hp → VK → Prop} {to : TE} (h : to σ H fun x H1 => (∃ a, x = .str a) ∧ te σ H1 fun y H2 => r x [y] H2 Q) : tM1 r to te σ H Q := h
theorem r_jsN {acc : Str} {R : Str → Hp → Prop} (h : R acc H) : tJs [] acc σ H R := h
theorem r_fmt (h : te σ H fun x H1 => (∃ y : Str, x = .str y ∧ y.length ≤ sizeLine ∧ Q (.str y) H1) ∨ ∃ i : Int, x = .int i ∧ i.natAbs.log2 < 1920 ∧ Q (.str (toString i)) H1) : tFmt te σ H Q := h
theorem e_app (x : Str) : Str.empty ++ x = x := str_eq (by
  show (#[] ++ x.cps).toList = x.cps.toList
  simp)
theorem len_app (x y : Str) : (x ++ y).length = x.length + y.length := by
  show (x.cps ++ y.cps).size = _
  rw [Array.size_append]
  rfl
theorem ntl {n : Nat} (h : n < 2 ^ 1900) : (nt n).length ≤ 1900 := by rw [len_nt]; exact numL_le (by decide) (bits_lt h)
theorem ntl4 {n : Nat} (h : n < 2 ^ 1200) : (nt n).length ≤ 400 := by rw [len_nt]; exact numL_le (by decide) (Nat.lt_of_lt_of_le h (by decide +kernel))
end
section
variable {P : Program} {w : World} {K : PySem.W.Frag} {mg : Str → Option Value} {base : Heap} {f : Addr} {fd : FuncData}
def spReadNum (K : PySem.W.Frag) : Sp := fun vs H Q _ => ∃ (n : Nat) (m : Int), vs = [.str (nt n), .int m] ∧ (nt n).length ≤ 640 ∧ ((nt n).length : Int) ≤ m ∧ Q (.int (n : Int)) H
def spAmTxt (K : PySem.W.Frag) : Sp := fun vs H Q _ => ∃ v q, vs = [v] ∧ Am K H v q ∧ 0 ≤ q ∧ Sz 1900 q ∧ ∀ H', Ext [] H H' → Q (.str (amTxt q)) H'
def spReadAm (K : PySem.W.Frag) : Sp := fun vs H Q _ => ∃ q, vs = [.str (amTxt q)] ∧ 0 ≤ q ∧ Sz 1200 q ∧ RetAm K H Q q
end
end Yk

set_option maxHeartbeats 8000000
namespace Yk
open PySem PySem.Spec PyProof.Rows L2 TL

section
variable {P : Program} {w : World} {K : PySem.W.Frag} {mg : Str → Option Value} {base : Heap} {f : Addr} {fd : FuncData}
section
variable {H : Hp} {Q : VK} {E : XK} {v1 v2 v3 : V} {p q r : Rat} {m n : Nat}
theorem sumQ2 (p q : Rat) : sumQ [p, q] = p + q := by
  show 0 + p + q = p + q
  rw [Rat.zero_add]
theorem sumQ3 (p q r : Rat) : sumQ [p, q, r] = p + q + r := by
  show 0 + p + q + r = p + q + r
  rw [Rat.zero_add]
theorem k_plus2 (a1 : Am K H v1 p) (a2 : Am K H v2 q) (z1 : Sz 1900 p) (z2 : Sz 1900 q) (k : ∀ v H', Ext [] H H' → Am K H' v (p + q) → Q v H') : spPlus K [v1, v2] H Q E :=
  ⟨[p, q], 1900, Ams.cons a1 (Ams.cons a2 Ams.nil), fun x hx => by
    rcases List.mem_cons.mp hx with rfl | hx
    · exact z1
    · rw [List.mem_singleton.mp hx]; exact z2, by decide, by simp, fun v H' e a => k v H' e (by rw [sumQ2] at a; exact a)⟩
theorem k_plus3 (a1 : Am K H v1 p) (a2 : Am K H v2 q) (a3 : Am K H v3 r) (z1 : Sz 1300 p) (z2 : Sz 1300 q) (z3 : Sz 1300 r) (k : ∀ v H', Ext [] H H' → Am K H' v (p + q + r) → Q v H') : spPlus K [v1, v2, v3] H Q E :=
  ⟨[p, q, r], 1300, Ams.cons a1 (Ams.cons a2 (Ams.cons a3 Ams.nil)), fun x hx => by
    rcases List.mem_cons.mp hx with rfl | hx
    · exact z1
    · rcases List.mem_cons.mp hx with rfl | hx
      · exact z2
      · rw [List.mem_singleton.mp hx]; exact z3, by decide, by simp, fun v H' e a => k v H' e (by rw [sumQ3] at a; exact a)⟩
theorem k_times (a1 : Am K H v1 p) (a2 : Am K H v2 q) (z1 : Sz 4000 p) (z2 : Sz 4000 q) (k : ∀ v H', Ext [] H H' → Am K H' v (p * q) → Q v H') : spTimes K [v1, v2] H Q E := ⟨_, _, p, q, rfl, a1, a2, z1, z2, k⟩
theorem k_over (a1 : Am K H v1 p) (a2 : Am K H v2 q) (h : 0 < q) (z1 : Sz 4000 p) (z2 : Sz 4000 q) (k : ∀ v H', Ext [] H H' → Am K H' v (p / q) → Q v H') : spOver K [v1, v2] H Q E := ⟨_, _, p, q, rfl, a1, a2, h, z1, z2, k⟩
theorem k_minus (a1 : Am K H v1 p) (a2 : Am K H v2 q) (h : q ≤ p) (z1 : Sz 4000 p) (z2 : Sz 4000 q) (k : ∀ v H', Ext [] H H' → Am K H' v (p - q) → Q v H') : spMinus K [v1, v2] H Q E := ⟨_, _, p, q, rfl, a1, a2, h, z1, z2, k⟩
theorem k_cmp (a1 : Am K H v1 p) (a2 : Am K H v2 q) (z1 : Sz 4000 p) (z2 : Sz 4000 q) (k : Q (.int (cmpQ p q)) H) : spCompare K [v1, v2] H Q E := ⟨_, _, p, q, rfl, a1, a2, z1, z2, k⟩
theorem k_order (a1 : Am K H v1 p) (a2 : Am K H v2 q) (z1 : Sz 4000 p) (z2 : Sz 4000 q) (k : Q (.int (cmpQ p q)) H) : spOrder K [v1, v2] H Q E := ⟨_, _, p, q, rfl, a1, a2, z1, z2, k⟩
theorem k_two {ok : Rat → Rat → Prop} {F : Rat → Rat → Rat} (a1 : Am K H v1 p) (a2 : Am K H v2 q) (z1 : Sz 4000 p) (z2 : Sz 4000 q) (h1 : 0 ≤ p) (h2 : 0 ≤ q) (h3 : ok p q) (k : ∀ v H', Ext [] H H' → Am K H' v (F p q) → Q v H') : sp2 ok F K [v1, v2] H Q E := ⟨_, _, p, q, rfl, a1, a2, z1, z2, h1, h2, h3, k⟩
theorem ams_eqd {a b : Addr} {xs ys : List V} {qs : List Rat} (h1 : SqL K H a xs) (h2 : SqL K H b ys) (h3 : Ams K H xs qs) (h4 : Ams K H ys qs) (h5 : qs.length ≤ 4000) (n : Nat) : Eqd K H (n + 2) (.ref a) (.ref b) :=
  .lst h1 h2 (h3.1.trans h4.1.symm) (by rw [h3.1]; exact h5) fun i x y hx hy => by
    obtain ⟨q, hq, e1⟩ := h3.at_ hx
    exact e1.eqd n (h4.2 i y q hy hq)
theorem k_like {v w : V} {n : Nat} (h : Eqd K H n v w) (k : ∀ H', Ext [] H H' → Q (.bl true) H') : spLike K (n + 1) [v, w] H Q E := ⟨v, w, rfl, h, k⟩
theorem ints_eqd {a b : Addr} {ns : List Int} (h1 : SqL K H a (ns.map V.int)) (h2 : SqL K H b (ns.map V.int)) (h : ns.length ≤ 4000) (n : Nat) : Eqd K H (n + 1) (.ref a) (.ref b) :=
  .lst h1 h2 rfl (by rw [List.length_map]; exact h) fun i x y hx hy => by
    rw [hx] at hy
    cases hy
    rw [List.getElem?_map] at hx
    cases e : ns[i]? with
    | none => rw [e] at hx; cases hx
    | some z => rw [e] at hx; cases hx; exact .int _ _
theorem cmpQ_eq (p q : Rat) : cmpQ p q = cmpQ' p q := rfl
end
def spThree (K : PySem.W.Frag) : Sp := fun vs H Q _ => ∃ v1 v2 v3 p q r, vs = [v1, v2, v3] ∧ Am K H v1 p ∧ Am K H v2 q ∧ Am K H v3 r ∧ 0 ≤ p ∧ 0 ≤ q ∧ 0 ≤ r ∧ Sz 114 p ∧ Sz 114 q ∧ Sz 114 r ∧ ∀ H', Ext [] H H' → Q (.bl true) H'
end
end Yk

set_option maxHeartbeats 8000000
namespace Yk
open PySem PySem.Spec PyProof.Rows L2 TL

section
variable {P : Program} {w : World} {K : PySem.W.Frag} {mg : Str → Option Value} {base : Heap} {f : Addr} {fd : FuncData}
/-! the row of a turn -/
theorem Am.b2 {H H1 : Hp} {b : Bag} {v : V} {q : Rat} (e : Ext [b.a] H H1) (hb : BagAt K H b) (h : Am K H v q) : Am K H1 v q := h.b hb e
def Good (qs : List Rat) : Prop := 3 ≤ qs.length ∧ qs.length ≤ 6 ∧ ∀ q ∈ qs, 0 ≤ q ∧ Sz 114 q
structure RowAt (K : PySem.W.Frag) (H0 H : Hp) (b : Bag) (row : Addr) (xs : List V) (qs : List Rat) : Prop where
  at_ : H row = some (.lst xs)
  ams : Ams K H xs qs
  good : Good qs
  bag : BagAt K H b
  new : H0 row = none
  bag0 : BagAt K H0 b
  ext : Ext [b.a] H0 H
theorem RowAt.ne {H0 H : Hp} {b : Bag} {row : Addr} {xs : List V} {qs : List Rat} (R : RowAt K H0 H b row xs qs) : row ≠ b.a := fun z => R.bag0.ne R.new z.symm
theorem RowAt.x0 {H0 H H1 : Hp} {b : Bag} {row : Addr} {xs : List V} {qs : List Rat} (e : Ext [] H H1) (R : RowAt K H0 H b row xs qs) : RowAt K H0 H1 b row xs qs :=
  ⟨e _ _ R.at_ (fun z => nomatch z), R.ams.x0 e, R.good, R.bag.x0 e, R.new, R.bag0, R.ext.trans e.of0⟩
theorem RowAt.b {H0 H H1 : Hp} {b : Bag} {row : Addr} {xs : List V} {qs : List Rat} (e : Ext [b.a] H H1) (hb : BagAt K H1 b) (R : RowAt K H0 H b row xs qs) : RowAt K H0 H1 b row xs qs :=
  ⟨e _ _ R.at_ (by simpa using R.ne), R.ams.b R.bag e, R.good, hb, R.new, R.bag0, R.ext.trans e⟩
theorem RowAt.sq {H0 H : Hp} {b : Bag} {row : Addr} {xs : List V} {qs : List Rat} (R : RowAt K H0 H b row xs qs) : SqL K H row xs := .inl (.inl R.at_)
theorem Ams.set {H : Hp} {xs : List V} {qs : List Rat} (h : Ams K H xs qs) {j : Nat} {v : V} {q : Rat} (hv : Am K H v q) : Ams K H (xs.set j v) (qs.set j q) := by
  refine ⟨by rw [List.length_set, List.length_set, h.1], fun i x y a b => ?_⟩
  by_cases hj : j = i
  · subst hj
    rw [List.getElem?_set_self'] at a b
    cases ex : xs[j]? with
    | none => rw [ex] at a; cases a
    | some x0 =>
      cases eq : qs[j]? with
      | none => rw [eq] at b; cases b
      | some q0 =>
        rw [ex] at a
        rw [eq] at b
        cases a
        cases b
        exact hv
  · rw [List.getElem?_set_ne hj] at a b
    exact h.2 i x y a b
theorem lmax_eq (m q : Rat) : lmax m q = if m < q then q else m := by
  unfold lmax
  by_cases h1 : q < m
  · rw [if_pos h1, if_neg (by grind)]
  · rw [if_neg h1]
    by_cases h2 : m < q
    · rw [if_pos h2]
    · rw [if_neg h2]; grind
theorem minQ_spec : ∀ (qs : List Rat) (p : Rat), minQ p qs ∈ p :: qs ∧ ∀ x ∈ p :: qs, minQ p qs ≤ x
  | [], p => ⟨List.mem_cons_self, fun x hx => by rw [List.mem_singleton.mp hx]; exact Rat.le_refl⟩
  | q :: r, p => by
    obtain ⟨h1, h2⟩ := minQ_spec r (if q < p then q else p)
    have e : minQ p (q :: r) = minQ (if q < p then q else p) r := rfl
    rw [e]
    have h3 := h2 _ List.mem_cons_self
    refine ⟨?_, fun x hx => ?_⟩
    · rcases List.mem_cons.mp h1 with h | h
      · rw [h]; split <;> simp
      · exact List.mem_cons_of_mem _ (List.mem_cons_of_mem _ h)
    · rcases List.mem_cons.mp hx with rfl | hx
      · refine Rat.le_trans h3 ?_
        split
        · grind
        · exact Rat.le_refl
      · rcases List.mem_cons.mp hx with rfl | hx
        · refine Rat.le_trans h3 ?_
          split
          · exact Rat.le_refl
          · grind
        · exact h2 x (List.mem_cons_of_mem _ hx)
theorem maxQ_spec : ∀ (qs : List Rat) (p : Rat), maxQ p qs ∈ p :: qs ∧ ∀ x ∈ p :: qs, x ≤ maxQ p qs
  | [], p => ⟨List.mem_cons_self, fun x hx => by rw [List.mem_singleton.mp hx]; exact Rat.le_refl⟩
  | q :: r, p => by
    obtain ⟨h1, h2⟩ := maxQ_spec r (if p < q then q else p)
    have e : maxQ p (q :: r) = maxQ (if p < q then q else p) r := rfl
    rw [e]
    have h3 := h2 _ List.mem_cons_self
    refine ⟨?_, fun x hx => ?_⟩
    · rcases List.mem_cons.mp h1 with h | h
      · rw [h]; split <;> simp
      · exact List.mem_cons_of_mem _ (List.mem_cons_of_mem _ h)
    · rcases List.mem_cons.mp hx with rfl | hx
      · refine Rat.le_trans ?_ h3
        split
        · grind
        · exact Rat.le_refl
      · rcases List.mem_cons.mp hx with rfl | hx
        · refine Rat.le_trans ?_ h3
          split
          · exact Rat.le_refl
          · grind
        · exact h2 x (List.mem_cons_of_mem _ hx)
theorem minQ_perm {p q : Rat} {l m : List Rat} (h : (p :: l).Perm (q :: m)) : minQ p l = minQ q m := by
  obtain ⟨a1, a2⟩ := minQ_spec l p
  obtain ⟨b1, b2⟩ := minQ_spec m q
  exact Rat.le_antisymm (a2 _ (h.symm.subset b1)) (b2 _ (h.subset a1))
theorem maxQ_perm {p q : Rat} {l m : List Rat} (h : (p :: l).Perm (q :: m)) : maxQ p l = maxQ q m := by
  obtain ⟨a1, a2⟩ := maxQ_spec l p
  obtain ⟨b1, b2⟩ := maxQ_spec m q
  exact Rat.le_antisymm (b2 _ (h.subset a1)) (a2 _ (h.symm.subset b1))
theorem foldl_lmin (q : Rat) (l : List Rat) : (q :: l).foldl lmin q = minQ q l := by
  show l.foldl lmin (lmin q q) = minQ q l
  have e : lmin q q = q := by unfold lmin; split <;> rfl
  rw [e]
  rfl
theorem foldl_lmax (q : Rat) (l : List Rat) : (q :: l).foldl lmax q = maxQ q l := by
  show l.foldl lmax (lmax q q) = maxQ q l
  have e : lmax q q = q := by unfold lmax; split <;> rfl
  rw [e]
  have h : ∀ (l : List Rat) (z : Rat), l.foldl lmax z = l.foldl (fun m q => if m < q then q else m) z := by
    intro l
    induction l with
    | nil => intro z; rfl
    | cons a r ih =>
      intro z
      show r.foldl lmax (lmax z a) = r.foldl _ (if z < a then a else z)
      rw [lmax_eq, ih]
  exact h l q
/-- from the same things in another order, the same row -/
theorem ams_perm {H : Hp} {xs ys : List V} (p : ys.Perm xs) : ∀ {qs : List Rat}, Ams K H xs qs → ∃ rs, Ams K H ys rs ∧ rs.Perm qs := by
  induction p with
  | nil => exact fun {qs} h => ⟨qs, h, List.Perm.refl _⟩
  | cons x _ ih =>
    intro qs h
    cases qs with
    | nil => exact absurd h.1 (by simp)
    | cons q r =>
      have h1 : Ams K H _ r := ⟨by simpa using h.1, fun i v u a b => h.2 (i + 1) v u (by simpa using a) (by simpa using b)⟩
      obtain ⟨rs, a, b⟩ := ih h1
      exact ⟨q :: rs, Ams.cons (h.2 0 x q rfl rfl) a, b.cons q⟩
  | swap x y l =>
    intro qs h
    match qs, h with
    | [], h => exact absurd h.1 (by simp)
    | [_], h => exact absurd h.1 (by simp)
    | q1 :: q2 :: r, h =>
      have h1 : Ams K H l r := ⟨by simpa using h.1, fun i v u a b => h.2 (i + 2) v u (by simpa using a) (by simpa using b)⟩
      exact ⟨q2 :: q1 :: r, Ams.cons (h.2 1 _ q2 rfl rfl) (Ams.cons (h.2 0 _ q1 rfl rfl) h1), List.Perm.swap q1 q2 r⟩
  | trans _ _ ih1 ih2 =>
    intro qs h
    obtain ⟨rs, a, b⟩ := ih2 h
    obtain ⟨ts, c, d⟩ := ih1 a
    exact ⟨ts, c, d.trans b⟩
theorem Good.perm {qs rs : List Rat} (g : Good qs) (p : rs.Perm qs) : Good rs := ⟨by rw [p.length_eq]; exact g.1, by rw [p.length_eq]; exact g.2.1, fun q hq => g.2.2 q (p.subset hq)⟩
theorem k_amt {H : Hp} {b : Bag} {Q : VK} {E : XK} (hb : BagAt K H b) (k : ∀ v q H', Am K H' v q → 0 ≤ q → Sz 114 q → BagAt K H' b → Ext [b.a] H H' → Q v H') : spAmt K [.ref b.a] H Q E := ⟨b, rfl, hb, k⟩
theorem k_draw {H : Hp} {b : Bag} {n : Int} {Q : VK} {E : XK} (hb : BagAt K H b) (h0 : 0 < n) (h1 : n < 2 ^ 400) (k : ∀ (x : Int) H', 0 ≤ x → x < n → BagAt K H' b → Ext [b.a] H H' → Q (.int x) H') : spDraw K [.ref b.a, .int n] H Q E := ⟨b, n, rfl, h0, h1, hb, k⟩
end
end Yk

set_option maxHeartbeats 4000000
namespace Yk
structure Row where
  man : Option (Rat × Rat)
  w : Nat
  b : Rat
def shq (man : Option (Rat × Rat)) (w : Nat) (x : Rat) : Rat := match man with
  | none => 0
  | some (l, m) => lmax l (lmin m ((w : Rat) * x))
def Row.at_ (r : Row) (x : Rat) : Rat := shq r.man r.w (lmin x r.b)
def tot (rows : List Row) (x : Rat) : Rat := sumQ (rows.map fun r => r.at_ x)
theorem sumQ_cons (q : Rat) (l : List Rat) : sumQ (q :: l) = q + sumQ l := by
  have h : ∀ (l : List Rat) (z : Rat), l.foldl (· + ·) z = z + sumQ l := by
    intro l
    induction l with
    | nil => intro z; show z = z + 0; rw [Rat.add_zero]
    | cons a r ih =>
      intro z
      show r.foldl (· + ·) (z + a) = z + sumQ (a :: r)
      have e : sumQ (a :: r) = a + sumQ r := by
        show r.foldl (· + ·) (0 + a) = _
        rw [ih, Rat.zero_add]
      rw [ih, e, Rat.add_assoc]
  show l.foldl (· + ·) (0 + q) = _
  rw [h, Rat.zero_add]
theorem lmin_le1 (p q : Rat) : lmin p q ≤ p := by unfold lmin; split <;> grind
theorem lmin_le2 (p q : Rat) : lmin p q ≤ q := by unfold lmin; split <;> grind
theorem lmin_mono {p q r : Rat} (h : p ≤ q) : lmin p r ≤ lmin q r := by unfold lmin; split <;> split <;> grind
theorem wmono {w : Nat} {x y : Rat} (h : x ≤ y) : (w : Rat) * x ≤ (w : Rat) * y := Rat.mul_le_mul_of_nonneg_left h (by exact_mod_cast Nat.zero_le w)
theorem shq_mono {man : Option (Rat × Rat)} {w : Nat} {x y : Rat} (h : x ≤ y) : shq man w x ≤ shq man w y := by
  cases man with
  | none => exact Rat.le_refl
  | some p =>
    obtain ⟨l, m⟩ := p
    have h2 := wmono (w := w) h
    show lmax l (lmin m _) ≤ lmax l (lmin m _)
    generalize (w : Rat) * x = a at h2
    generalize (w : Rat) * y = b at h2
    unfold lmax lmin
    grind
theorem Row.mono (r : Row) {x y : Rat} (h : x ≤ y) : r.at_ x ≤ r.at_ y := shq_mono (lmin_mono h)
theorem tot_cons (r : Row) (rows : List Row) (x : Rat) : tot (r :: rows) x = r.at_ x + tot rows x := sumQ_cons _ _
theorem tot_mono (rows : List Row) {x y : Rat} (h : x ≤ y) : tot rows x ≤ tot rows y := by
  induction rows with
  | nil => exact Rat.le_refl
  | cons r rows ih =>
    rw [tot_cons, tot_cons]
    have := r.mono h
    grind
/-- linear between l and u -/
def Lin (T : Rat → Rat) (l u : Rat) : Prop := ∀ z, l ≤ z → z ≤ u → (T z - T l) * (u - l) = (T u - T l) * (z - l)
theorem Lin.const {T : Rat → Rat} {l u c : Rat} (hu : l ≤ u) (h : ∀ z, l ≤ z → z ≤ u → T z = c) : Lin T l u := fun z h1 h2 => by
  rw [h z h1 h2, h l Rat.le_refl hu, h u hu Rat.le_refl]
  grind
theorem Lin.line {T : Rat → Rat} {l u c : Rat} (hu : l ≤ u) (h : ∀ z, l ≤ z → z ≤ u → T z = c * z) : Lin T l u := fun z h1 h2 => by
  rw [h z h1 h2, h l Rat.le_refl hu, h u hu Rat.le_refl]
  grind
theorem Lin.add {T S : Rat → Rat} {l u : Rat} (h1 : Lin T l u) (h2 : Lin S l u) : Lin (fun z => T z + S z) l u := fun z a b => by
  have := h1 z a b
  have := h2 z a b
  dsimp only
  grind
def Row.brk (r : Row) : List Rat := match r.man with
  | none => [r.b]
  | some (l, m) => [l / (r.w : Rat), m / (r.w : Rat), r.b]
theorem Row.lin (r : Row) (hw : 0 < r.w) {l u : Rat} (hlu : l ≤ u) (h : r.man ≠ none → ∀ p ∈ r.brk, p ≤ l ∨ u ≤ p) : Lin r.at_ l u := by
  obtain ⟨man, w, b⟩ := r
  cases man with
  | none => exact Lin.const hlu (c := 0) fun z _ _ => rfl
  | some p =>
    obtain ⟨s, m⟩ := p
    have h := h (by simp)
    have hs := h (s / (w : Rat)) (by simp [Row.brk])
    have hm := h (m / (w : Rat)) (by simp [Row.brk])
    have hb := h b (by simp [Row.brk])
    have w0 : (0 : Rat) < (w : Rat) := by exact_mod_cast hw
    have es : (w : Rat) * (s / (w : Rat)) = s := by grind
    have em : (w : Rat) * (m / (w : Rat)) = m := by grind
    generalize s / (w : Rat) = s' at *
    generalize m / (w : Rat) = m' at *
    subst es em
    have k : ∀ z : Rat, ({ man := some ((w : Rat) * s', (w : Rat) * m'), w := w, b := b } : Row).at_ z = lmax ((w : Rat) * s') (lmin ((w : Rat) * m') ((w : Rat) * lmin z b)) := fun z => rfl
    have c1 : ∀ x y : Rat, x ≤ y → lmin ((w : Rat) * y) ((w : Rat) * x) = (w : Rat) * x := fun x y hxy => by have := wmono (w := w) hxy; unfold lmin; grind
    have c2 : ∀ x y : Rat, x ≤ y → lmin ((w : Rat) * x) ((w : Rat) * y) = (w : Rat) * x := fun x y hxy => by have := wmono (w := w) hxy; unfold lmin; grind
    have d1 : ∀ x y : Rat, x ≤ y → lmax ((w : Rat) * y) ((w : Rat) * x) = (w : Rat) * y := fun x y hxy => by have := wmono (w := w) hxy; unfold lmax; grind
    have d2 : ∀ x y : Rat, x ≤ y → lmax ((w : Rat) * x) ((w : Rat) * y) = (w : Rat) * y := fun x y hxy => by have := wmono (w := w) hxy; unfold lmax; grind
    rcases hb with hb | hb
    · refine Lin.const hlu (c := lmax ((w : Rat) * s') (lmin ((w : Rat) * m') ((w : Rat) * b))) fun z h1 h2 => ?_
      rw [k, show lmin z b = b by unfold lmin; grind]
    · have kz : ∀ z : Rat, z ≤ u → lmin z b = z := fun z h2 => by unfold lmin; grind
      rcases hm with hm | hm
      · refine Lin.const hlu (c := lmax ((w : Rat) * s') ((w : Rat) * m')) fun z h1 h2 => ?_
        rw [k, kz z h2, c2 _ _ (by grind)]
      · rcases hs with hs | hs
        · refine Lin.line hlu (c := (w : Rat)) fun z h1 h2 => ?_
          rw [k, kz z h2, c1 _ _ (by grind), d2 _ _ (by grind)]
        · refine Lin.const hlu (c := (w : Rat) * s') fun z h1 h2 => ?_
          rw [k, kz z h2, c1 _ _ (by grind), d1 _ _ (by grind)]
theorem lin_tot (rows : List Row) (hw : ∀ r ∈ rows, 0 < r.w) {l u : Rat} (hlu : l ≤ u) (h : ∀ r ∈ rows, r.man ≠ none → ∀ p ∈ r.brk, p ≤ l ∨ u ≤ p) : Lin (tot rows) l u := by
  induction rows with
  | nil => exact Lin.const hlu (c := 0) fun z _ _ => rfl
  | cons r rows ih =>
    have e : tot (r :: rows) = fun x => r.at_ x + tot rows x := funext fun x => tot_cons r rows x
    rw [e]
    exact (r.lin (hw r List.mem_cons_self) hlu (h r List.mem_cons_self)).add (ih (fun r hr => hw r (List.mem_cons_of_mem _ hr)) fun r hr => h r (List.mem_cons_of_mem _ hr))
theorem le_cases {x y : Rat} (h : x ≤ y) : x < y ∨ x = y := by grind
theorem nlt {x y : Rat} (h : x < y → False) : y ≤ x := Rat.not_lt.mp h
/-- the level: the least height at which the goal is reached, else the top -/
structure IsLev (T : Rat → Rat) (top goal y : Rat) : Prop where
  nn : 0 ≤ y
  le : y ≤ top
  lo : ∀ z, 0 ≤ z → z < y → T z < goal
  hi : goal ≤ T y ∨ y = top
theorem IsLev.le_of {T : Rat → Rat} {top goal y z : Rat} (a : IsLev T top goal y) (b : IsLev T top goal z) : z ≤ y := nlt fun h => by
  have := b.lo y a.nn h
  rcases a.hi with e | e
  · grind
  · have := b.le; grind
theorem IsLev.uniq {T : Rat → Rat} {top goal y z : Rat} (a : IsLev T top goal y) (b : IsLev T top goal z) : y = z := Rat.le_antisymm (b.le_of a) (a.le_of b)
/-- on a line -/
def onl (T : Rat → Rat) (goal l u : Rat) : Rat := l + (goal - T l) * (u - l) / (T u - T l)
theorem lev_line {T : Rat → Rat} {top goal l u : Rat} (mono : ∀ x y, x ≤ y → T x ≤ T y) (h0 : 0 ≤ l) (hlu : l ≤ u) (hu : u ≤ top) (hl : Lin T l u) (g1 : T l < goal) (g2 : goal ≤ T u) : IsLev T top goal (onl T goal l u) ∧ l < onl T goal l u ∧ onl T goal l u ≤ u ∧ T (onl T goal l u) = goal := by
  have lu : l < u := by
    rcases le_cases hlu with h | h
    · exact h
    · subst h; grind
  have d0 : 0 < T u - T l := by grind
  have e0 : 0 < u - l := by grind
  obtain ⟨y, hy⟩ : ∃ y, y = onl T goal l u := ⟨_, rfl⟩
  rw [← hy]
  have ey : (y - l) * (T u - T l) = (goal - T l) * (u - l) := by
    rw [hy]
    unfold onl
    grind
  have y1 : l < y := by
    have h1 : 0 < (y - l) * (T u - T l) := by rw [ey]; exact Rat.mul_pos (by grind) e0
    refine Rat.not_le.mp fun h => ?_
    have h2 : 0 ≤ (l - y) * (T u - T l) := Rat.mul_nonneg (by grind) (by grind)
    grind
  have y2 : y ≤ u := by
    refine Rat.not_lt.mp fun h => ?_
    have h1 : 0 < (y - u) * (T u - T l) := Rat.mul_pos (by grind) d0
    have h2 : 0 ≤ (T u - goal) * (u - l) := Rat.mul_nonneg (by grind) (by grind)
    grind
  have ty : T y = goal := by
    have h1 := hl y (by grind) y2
    have h2 : (T y - goal) * (u - l) = 0 := by grind
    rcases Rat.mul_eq_zero.mp h2 with h | h <;> grind
  refine ⟨⟨by grind, by grind, fun z z0 zy => ?_, .inl (by rw [ty]; exact Rat.le_refl)⟩, y1, y2, ty⟩
  rcases (Rat.le_total : z ≤ l ∨ l ≤ z) with h | h
  · have := mono z l h; grind
  · have h1 := hl z h (by grind)
    have h2 := hl y (by grind) y2
    have h3 : (T y - T z) * (u - l) = (T u - T l) * (y - z) := by grind
    have h4 : 0 < (T u - T l) * (y - z) := Rat.mul_pos d0 (by grind)
    refine Rat.not_le.mp fun h5 => ?_
    have h6 : 0 ≤ (T z - T y) * (u - l) := Rat.mul_nonneg (by grind) (by grind)
    grind
theorem lev_zero {T : Rat → Rat} {top goal : Rat} (h : 0 ≤ top) (g : goal ≤ T 0) : IsLev T top goal 0 := ⟨Rat.le_refl, h, fun z a b => by grind, .inl g⟩
theorem lev_top {T : Rat → Rat} {top goal : Rat} (mono : ∀ x y, x ≤ y → T x ≤ T y) (h : 0 ≤ top) (g : T top < goal) : IsLev T top goal top := ⟨h, Rat.le_refl, fun z a b => by have := mono z top (by grind); grind, .inr rfl⟩
/-- not below 0, at most M, a multiple of the D-th part of 1 -/
structure In (D M : Nat) (q : Rat) : Prop where
  nn : 0 ≤ q
  le : q ≤ (M : Rat)
  ex : ∃ n : Int, q * (D : Rat) = (n : Rat)
theorem natQ {a b : Nat} (h : a ≤ b) : (a : Rat) ≤ (b : Rat) := by exact_mod_cast h
theorem natP {a : Nat} (h : 0 < a) : (0 : Rat) < (a : Rat) := by exact_mod_cast h
theorem In.sz {D M j k : Nat} {q : Rat} (h : In D M q) (h0 : 0 < D) (hD : D ≤ 2 ^ j) (hM : M ≤ 2 ^ k) : Sz (j + k + 1) q := by
  obtain ⟨n, e⟩ := h.ex
  have d0 := natP h0
  have eq : q = mkRat n D := by
    rw [Rat.mkRat_eq_div]
    grind
  have n0 : 0 ≤ n := by
    have h1 : (0 : Rat) ≤ q * (D : Rat) := Rat.mul_nonneg h.nn (by grind)
    rw [e] at h1
    exact_mod_cast h1
  have n1 : n ≤ (M * D : Nat) := by
    have h1 : q * (D : Rat) ≤ (M : Rat) * (D : Rat) := Rat.mul_le_mul_of_nonneg_right h.le (by grind)
    rw [e] at h1
    have h2 : ((n : Int) : Rat) ≤ (((M * D : Nat) : Int) : Rat) := by push_cast; exact h1
    exact_mod_cast h2
  have hh : M * D ≤ 2 ^ (j + k) := by rw [Nat.add_comm, Nat.pow_add]; exact Nat.mul_le_mul hM hD
  have h2 : 2 ^ (j + k) < 2 ^ (j + k + 1) := Nat.pow_lt_pow_succ (by decide)
  have h3 : 2 ^ j ≤ 2 ^ (j + k) := Nat.pow_le_pow_right (by decide) (by omega)
  refine sz_mk h0 eq ?_ ?_
  · omega
  · omega
theorem In.up {D D' M : Nat} {q : Rat} (h : In D M q) (hd : D ∣ D') : In D' M q := by
  obtain ⟨n, e⟩ := h.ex
  obtain ⟨c, rfl⟩ := hd
  refine ⟨h.nn, h.le, n * (c : Int), ?_⟩
  push_cast
  grind
theorem In.most {D M M' : Nat} {q : Rat} (h : In D M q) (hm : M ≤ M') : In D M' q := ⟨h.nn, Rat.le_trans h.le (natQ hm), h.ex⟩
theorem In.of_le {D M M' : Nat} {q : Rat} (h : In D M q) (hm : q ≤ (M' : Rat)) : In D M' q := ⟨h.nn, hm, h.ex⟩
theorem In.zero {D M : Nat} : In D M 0 := ⟨Rat.le_refl, natQ (Nat.zero_le M), 0, by norm_cast; grind⟩
theorem In.nat {D M n : Nat} (h : n ≤ M) : In D M (n : Rat) := ⟨natQ (Nat.zero_le n), natQ h, ((n * D : Nat) : Int), by push_cast; rfl⟩
theorem In.frac {D M n d : Nat} (h : 0 < d) (hd : d ∣ D) (hm : n ≤ M * d) : In D M (mkRat (n : Int) d) := by
  obtain ⟨c, rfl⟩ := hd
  have d0 := natP h
  have e : mkRat (n : Int) d = (n : Rat) / (d : Rat) := by rw [Rat.mkRat_eq_div]; norm_cast
  have hm' : (n : Rat) ≤ (M : Rat) * (d : Rat) := by exact_mod_cast hm
  have n0 := natQ (Nat.zero_le n)
  obtain ⟨x, ex⟩ : ∃ x : Rat, x = (n : Rat) / (d : Rat) := ⟨_, rfl⟩
  have ex2 : x * (d : Rat) = (n : Rat) := by rw [ex]; grind
  rw [e, ← ex]
  refine ⟨?_, ?_, ((n * c : Nat) : Int), ?_⟩
  · refine Rat.not_lt.mp fun z => ?_
    have := Rat.mul_pos (a := -x) (b := (d : Rat)) (by grind) d0
    grind
  · refine Rat.not_lt.mp fun z => ?_
    have := Rat.mul_pos (a := x - (M : Rat)) (b := (d : Rat)) (by grind) d0
    grind
  · push_cast
    grind
theorem In.add {D M N : Nat} {p q : Rat} (h : In D M p) (g : In D N q) : In D (M + N) (p + q) := by
  obtain ⟨a, ea⟩ := h.ex
  obtain ⟨b, eb⟩ := g.ex
  have := h.nn; have := h.le; have := g.nn; have := g.le
  refine ⟨by grind, by push_cast; grind, a + b, by push_cast; grind⟩
theorem In.sub {D M N : Nat} {p q : Rat} (h : In D M p) (g : In D N q) (e : q ≤ p) : In D M (p - q) := by
  obtain ⟨a, ea⟩ := h.ex
  obtain ⟨b, eb⟩ := g.ex
  have := h.nn; have := h.le; have := g.nn; have := g.le
  refine ⟨by grind, by grind, a - b, by push_cast; grind⟩
theorem In.lmin {D M N : Nat} {p q : Rat} (h : In D M p) (g : In D N q) : In D N (lmin p q) := by
  unfold Yk.lmin
  split
  · exact g
  · exact h.of_le (by have := g.le; grind)
theorem In.lmin1 {D M N : Nat} {p q : Rat} (h : In D M p) (g : In D N q) : In D M (Yk.lmin p q) := by
  unfold Yk.lmin
  split
  · exact g.of_le (by have := h.le; grind)
  · exact h
theorem In.lmax {D M : Nat} {p q : Rat} (h : In D M p) (g : In D M q) : In D M (lmax p q) := by
  unfold Yk.lmax
  split
  · exact h
  · exact g
theorem In.mulN {D M : Nat} {q : Rat} (h : In D M q) (w : Nat) : In D (w * M) ((w : Rat) * q) := by
  obtain ⟨a, ea⟩ := h.ex
  have w0 : (0 : Rat) ≤ (w : Rat) := natQ (Nat.zero_le w)
  refine ⟨Rat.mul_nonneg w0 h.nn, ?_, (w : Int) * a, by push_cast; grind⟩
  push_cast
  exact Rat.mul_le_mul_of_nonneg_left h.le w0
theorem In.mul {D D' M N : Nat} {p q : Rat} (h : In D M p) (g : In D' N q) : In (D * D') (M * N) (p * q) := by
  obtain ⟨a, ea⟩ := h.ex
  obtain ⟨b, eb⟩ := g.ex
  have h1 : p * q ≤ (M : Rat) * q := Rat.mul_le_mul_of_nonneg_right h.le g.nn
  have h2 : (M : Rat) * q ≤ (M : Rat) * (N : Rat) := Rat.mul_le_mul_of_nonneg_left g.le (natQ (Nat.zero_le M))
  refine ⟨Rat.mul_nonneg h.nn g.nn, by push_cast; exact Rat.le_trans h1 h2, a * b, ?_⟩
  push_cast
  rw [← ea, ← eb]
  grind
theorem In.divN {D M w : Nat} {q : Rat} (h : In D M q) (hw : 0 < w) : In (D * w) M (q / (w : Rat)) := by
  obtain ⟨a, ea⟩ := h.ex
  have w0 := natP hw
  obtain ⟨x, ex⟩ : ∃ x : Rat, x = q / (w : Rat) := ⟨_, rfl⟩
  have ex2 : x * (w : Rat) = q := by rw [ex]; grind
  have w1 : (1 : Rat) ≤ (w : Rat) := by exact_mod_cast hw
  have x0 : 0 ≤ x := by
    refine Rat.not_lt.mp fun z => ?_
    have := Rat.mul_pos (a := -x) (b := (w : Rat)) (by grind) w0
    have := h.nn
    grind
  rw [← ex]
  refine ⟨x0, ?_, a, by push_cast; grind⟩
  have h1 : x * 1 ≤ x * (w : Rat) := Rat.mul_le_mul_of_nonneg_left w1 x0
  have := h.le
  grind
theorem In.half {D M : Nat} {q : Rat} (h : In D M q) : In (D * 2) M (q * (1 / 2)) := by
  have := h.divN (w := 2) (by decide)
  have e : q / ((2 : Nat) : Rat) = q * (1 / 2) := by push_cast; grind
  rw [e] at this
  exact this
/-- the point on a line, its size -/
theorem In.onl {E M B : Nat} {g tl tu l u : Rat} (h0 : 0 < E) (hg : In E B g) (htl : In E B tl) (htu : In E B tu) (hl : In E M l) (hu : In E M u) (h1 : tl < g) (h2 : g ≤ tu) (h3 : l ≤ u) :
    ∃ X, 0 < X ∧ E ∣ X ∧ X ≤ E * (B * E) ∧ In X M (l + (g - tl) * (u - l) / (tu - tl)) ∧ In E B (g - tl) ∧ In E B (tu - tl) ∧ In E M (u - l) := by
  have ig := hg.sub htl (by grind)
  have ir := htu.sub htl (by grind)
  have iu := hu.sub hl h3
  obtain ⟨n1, e1⟩ := ig.ex
  obtain ⟨n3, e3⟩ := ir.ex
  obtain ⟨n2, e2⟩ := iu.ex
  obtain ⟨n0, e0⟩ := hl.ex
  have E0 := natP h0
  have r0 : 0 < tu - tl := by grind
  have n30 : 0 < n3 := by
    have h := Rat.mul_pos r0 E0
    rw [e3] at h
    exact_mod_cast h
  have n3m : n3 ≤ ((B * E : Nat) : Int) := by
    have h : (tu - tl) * (E : Rat) ≤ (B : Rat) * (E : Rat) := Rat.mul_le_mul_of_nonneg_right ir.le (by grind)
    rw [e3] at h
    have h2 : ((n3 : Int) : Rat) ≤ (((B * E : Nat) : Int) : Rat) := by push_cast; exact h
    exact_mod_cast h2
  have en : ((n3.toNat : Nat) : Int) = n3 := by omega
  have eq : ((n3.toNat : Nat) : Rat) = (n3 : Rat) := by rw [← en]; norm_cast
  refine ⟨E * n3.toNat, Nat.mul_pos h0 (by omega), Nat.dvd_mul_right _ _, Nat.mul_le_mul_left _ (by omega), ?_, ig, ir, iu⟩
  obtain ⟨y, ey⟩ : ∃ y, y = (g - tl) * (u - l) / (tu - tl) := ⟨_, rfl⟩
  have ey2 : y * (tu - tl) = (g - tl) * (u - l) := by rw [ey]; grind
  rw [← ey]
  have y0 : 0 ≤ y := by
    refine Rat.not_lt.mp fun z => ?_
    have h1 := Rat.mul_pos (a := -y) (b := tu - tl) (by grind) r0
    have h2 := Rat.mul_nonneg ig.nn iu.nn
    grind
  have y1 : y ≤ u - l := by
    refine Rat.not_lt.mp fun z => ?_
    have h1 := Rat.mul_pos (a := y - (u - l)) (b := tu - tl) (by grind) r0
    have h2 := Rat.mul_nonneg (a := tu - g) (b := u - l) (by grind) iu.nn
    grind
  refine ⟨by have := hl.nn; grind, by have := hu.le; grind, n0 * n3 + n1 * n2, ?_⟩
  have h5 : y * (E : Rat) * (n3 : Rat) = (n1 : Rat) * (n2 : Rat) := by
    rw [← e3, ← e1, ← e2]
    grind
  push_cast
  rw [eq, ← e0]
  grind

theorem sumQ_map_perm {rows rows' : List Row} (p : rows.Perm rows') (x : Rat) : tot rows x = tot rows' x := sumQ_perm (p.map fun r => r.at_ x)
theorem tot_perm {rows rows' : List Row} (p : rows.Perm rows') : tot rows = tot rows' := funext (sumQ_map_perm p)
/-- what a row may be -/
structure RowOk (D M : Nat) (r : Row) : Prop where
  w0 : 0 < r.w
  w12 : r.w ≤ 12
  b : In D M r.b
  m : ∀ l u, r.man = some (l, u) → In D M l ∧ In D M u
theorem RowOk.up {D D' M : Nat} {r : Row} (h : RowOk D M r) (hd : D ∣ D') : RowOk D' M r := ⟨h.w0, h.w12, h.b.up hd, fun l u e => ⟨(h.m l u e).1.up hd, (h.m l u e).2.up hd⟩⟩
theorem shq_in {X M N w : Nat} {man : Option (Rat × Rat)} {x : Rat} (hm : ∀ l u, man = some (l, u) → In X M l ∧ In X M u) (hx : In X N x) : In X M (shq man w x) := by
  cases man with
  | none => exact In.zero
  | some p =>
    obtain ⟨l, u⟩ := p
    obtain ⟨h1, h2⟩ := hm l u rfl
    exact h1.lmax (h2.lmin1 (hx.mulN w))
theorem RowOk.at_ {X M N : Nat} {r : Row} {x : Rat} (h : RowOk X M r) (hx : In X N x) : In X M (r.at_ x) := shq_in h.m (hx.lmin h.b)
theorem tot_in {X M N : Nat} {x : Rat} (hx : In X N x) : ∀ {rows : List Row}, (∀ r ∈ rows, RowOk X M r) → In X (rows.length * M) (tot rows x)
  | [], _ => In.zero
  | r :: rows, h => by
    rw [tot_cons]
    have h1 := (h r List.mem_cons_self).at_ hx
    have h2 := tot_in hx (rows := rows) fun r hr => h r (List.mem_cons_of_mem _ hr)
    have h3 := h1.add h2
    rw [List.length_cons, Nat.add_mul, Nat.one_mul, Nat.add_comm]
    exact h3
theorem in_brk {D M : Nat} {r : Row} (h : RowOk D M r) : ∀ p ∈ r.brk, In (D * 27720) M p := by
  have hw : D * r.w ∣ D * 27720 := Nat.mul_dvd_mul_left D (by
    have a := h.w0
    have b := h.w12
    generalize r.w = w at a b
    have : w = 1 ∨ w = 2 ∨ w = 3 ∨ w = 4 ∨ w = 5 ∨ w = 6 ∨ w = 7 ∨ w = 8 ∨ w = 9 ∨ w = 10 ∨ w = 11 ∨ w = 12 := by omega
    rcases this with rfl | rfl | rfl | rfl | rfl | rfl | rfl | rfl | rfl | rfl | rfl | rfl <;> decide)
  intro p hp
  unfold Row.brk at hp
  split at hp
  · rw [List.mem_singleton.mp hp]
    exact h.b.up (Nat.dvd_mul_right _ _)
  · rename_i l u e
    obtain ⟨h1, h2⟩ := h.m l u e
    simp only [List.mem_cons, List.not_mem_nil, or_false] at hp
    rcases hp with rfl | rfl | rfl
    · exact (h1.divN h.w0).up hw
    · exact (h2.divN h.w0).up hw
    · exact h.b.up (Nat.dvd_mul_right _ _)
end Yk

set_option maxHeartbeats 4000000
namespace Yk
open PySem PySem.Spec PyProof.Rows L2

section
variable {K : PySem.W.Frag} {H H1 : Hp} {Q : VK}
def ManIs (K : PySem.W.Frag) (H : Hp) (v : V) : Option (Rat × Rat) → Prop
  | none => ∃ a, v = .ref a ∧ SqT K H a []
  | some p => ∃ a v1 v2, v = .ref a ∧ SqT K H a [v1, v2] ∧ Am K H v1 p.1 ∧ Am K H v2 p.2
theorem ManIs.x {S : List Addr} {v : V} {man : Option (Rat × Rat)} (e : Ext S H H1) (h : ManIs K H v man) (hs : ∀ b ∈ S, ∃ l, H b = some (.lst l)) : ManIs K H1 v man := by
  cases man with
  | none => obtain ⟨a, rfl, h⟩ := h; exact ⟨a, rfl, tupX e h hs⟩
  | some p => obtain ⟨a, v1, v2, rfl, h, a1, a2⟩ := h; exact ⟨a, v1, v2, rfl, tupX e h hs, a1.x e hs, a2.x e hs⟩
theorem ManIs.x0 {v : V} {man : Option (Rat × Rat)} (e : Ext [] H H1) (h : ManIs K H v man) : ManIs K H1 v man := h.x e fun _ z => nomatch z
def RowIs (K : PySem.W.Frag) (H : Hp) (v : V) (r : Row) : Prop := ∃ a mv bv, v = .ref a ∧ SqT K H a [mv, .int (r.w : Int), bv] ∧ ManIs K H mv r.man ∧ Am K H bv r.b
theorem RowIs.x {S : List Addr} {v : V} {r : Row} (e : Ext S H H1) (h : RowIs K H v r) (hs : ∀ b ∈ S, ∃ l, H b = some (.lst l)) : RowIs K H1 v r := by
  obtain ⟨a, mv, bv, rfl, h, h1, h2⟩ := h
  exact ⟨a, mv, bv, rfl, tupX e h hs, h1.x e hs, h2.x e hs⟩
theorem RowIs.x0 {v : V} {r : Row} (e : Ext [] H H1) (h : RowIs K H v r) : RowIs K H1 v r := h.x e fun _ z => nomatch z
def RowsIs (K : PySem.W.Frag) (H : Hp) (xs : List V) (rows : List Row) : Prop := Rel (RowIs K H) xs rows
theorem RowsIs.x {S : List Addr} {xs : List V} {rows : List Row} (e : Ext S H H1) (h : RowsIs K H xs rows) (hs : ∀ b ∈ S, ∃ l, H b = some (.lst l)) : RowsIs K H1 xs rows := h.imp fun _ _ z => z.x e hs
theorem RowsIs.x0 {xs : List V} {rows : List Row} (e : Ext [] H H1) (h : RowsIs K H xs rows) : RowsIs K H1 xs rows := h.imp fun _ _ z => z.x0 e
theorem bagS {b : Bag} (hb : BagAt K H b) : ∀ c ∈ [b.a], ∃ l, H c = some (.lst l) := fun c hc => by rw [List.mem_singleton.mp hc]; exact hb.lst
theorem lstS1 {c : Addr} {l : List V} (h : H c = some (.lst l)) : ∀ x ∈ [c], ∃ l, H x = some (.lst l) := fun x hx => by rw [List.mem_singleton.mp hx]; exact ⟨l, h⟩
theorem extW {c : Addr} {o : HO} : Ext [c] H (upd H c o) := Ext.refl.at_ List.mem_cons_self
theorem Am.w {c : Addr} {l l' : List V} {v : V} {q : Rat} (h : H c = some (.lst l)) (a : Am K H v q) : Am K (upd H c (.lst l')) v q := a.x extW (lstS1 h)
theorem Ams.w {c : Addr} {l l' : List V} {v : List V} {q : List Rat} (h : H c = some (.lst l)) (a : Ams K H v q) : Ams K (upd H c (.lst l')) v q := a.x extW (lstS1 h)
theorem RowIs.w {c : Addr} {l l' : List V} {v : V} {r : Row} (h : H c = some (.lst l)) (a : RowIs K H v r) : RowIs K (upd H c (.lst l')) v r := a.x extW (lstS1 h)
theorem RowsIs.w {c : Addr} {l l' : List V} {v : List V} {r : List Row} (h : H c = some (.lst l)) (a : RowsIs K H v r) : RowsIs K (upd H c (.lst l')) v r := a.x extW (lstS1 h)
/-! equality -/
theorem dp_am {v : V} {q : Rat} (h : Am K H v q) : Dp K H v (.tuple [.int q.num, .int (q.den : Int)]) := by
  obtain ⟨a, rfl, h⟩ := h
  exact .tup h (.cons (.int _) (.cons (.int _) .nil))
theorem rat_eq {p q : Rat} : p = q ↔ p.num = q.num ∧ p.den = q.den := ⟨fun h => by rw [h]; exact ⟨rfl, rfl⟩, fun h => Rat.ext h.1 h.2⟩
theorem eq_am {v w : V} {p q : Rat} (h : Am K H v p) (g : Am K H w q) (k : Q (.bl (decide (p = q))) H) : rEqD K v w H Q := by
  refine ⟨_, _, dp_am h, dp_am g, rfl, rfl, ?_⟩
  have e : PyData.eqv (.tuple [.int p.num, .int (p.den : Int)]) (.tuple [.int q.num, .int (q.den : Int)]) = decide (p = q) := by
    rw [Bool.eq_iff_iff]
    simp [PyData.eqv, PyData.eqvAll, rat_eq]
    omega
  rw [e]
  exact k
theorem ne_am {v w : V} {p q : Rat} (h : Am K H v p) (g : Am K H w q) (k : Q (.bl (!decide (p = q))) H) : rNeD K v w H Q := by
  refine ⟨_, _, dp_am h, dp_am g, rfl, rfl, ?_⟩
  have e : PyData.eqv (.tuple [.int p.num, .int (p.den : Int)]) (.tuple [.int q.num, .int (q.den : Int)]) = decide (p = q) := by
    rw [Bool.eq_iff_iff]
    simp [PyData.eqv, PyData.eqvAll, rat_eq]
    omega
  rw [e]
  exact k
theorem eq_man {v : V} {man : Option (Rat × Rat)} {p : Addr} (h : ManIs K H v man) (g : SqT K H p []) (k : Q (.bl man.isNone) H) : rEqD K v (.ref p) H Q := by
  cases man with
  | none => obtain ⟨a, rfl, h⟩ := h; exact ⟨.tuple [], .tuple [], .tup h .nil, .tup g .nil, rfl, rfl, k⟩
  | some q => obtain ⟨a, v1, v2, rfl, h, a1, a2⟩ := h; exact ⟨_, .tuple [], .tup h (.cons (dp_am a1) (.cons (dp_am a2) .nil)), .tup g .nil, rfl, rfl, k⟩
theorem ne_man {v : V} {man : Option (Rat × Rat)} {p : Addr} (h : ManIs K H v man) (g : SqT K H p []) (k : Q (.bl (!man.isNone)) H) : rNeD K v (.ref p) H Q := by
  cases man with
  | none => obtain ⟨a, rfl, h⟩ := h; exact ⟨.tuple [], .tuple [], .tup h .nil, .tup g .nil, rfl, rfl, k⟩
  | some q => obtain ⟨a, v1, v2, rfl, h, a1, a2⟩ := h; exact ⟨_, .tuple [], .tup h (.cons (dp_am a1) (.cons (dp_am a2) .nil)), .tup g .nil, rfl, rfl, k⟩
theorem am_nat {a : Addr} {w : Nat} (h : SqT K H a [.int (w : Int), .int 1]) : Am K H (.ref a) (w : Rat) := ⟨a, rfl, h⟩
theorem sz_nat {w m : Nat} (h : w < 2 ^ m) (h0 : 0 < m) : Sz m (w : Rat) := ⟨h, Nat.lt_of_lt_of_le (by decide : 1 < 2 ^ 1) (Nat.pow_le_pow_right (by decide) h0)⟩
theorem mk_w (w : Nat) {q : Rat} (h : 0 ≤ q) : mkRat ((w * q.num.toNat : Nat) : Int) q.den = (w : Rat) * q := by
  have hn := num_nn h
  have e : ((w * q.num.toNat : Nat) : Int) = (w : Int) * q.num := by push_cast; rw [Int.toNat_of_nonneg hn]
  rw [e, Rat.mkRat_eq_div]
  have hd := natP q.den_pos
  have e2 : (q.num : Rat) / (q.den : Rat) = q := by rw [← Rat.mkRat_eq_div]; exact Rat.mkRat_self q
  push_cast
  grind
theorem maxQ1 (a b : Rat) : maxQ a [b] = lmax a b := (lmax_eq a b).symm
theorem minQ1 (a b : Rat) : minQ a [b] = lmin a b := rfl
theorem lmin_comm (a b : Rat) : lmin a b = lmin b a := by unfold lmin; grind
theorem lmax_comm (a b : Rat) : lmax a b = lmax b a := by unfold lmax; grind
theorem k_min2 {v w : V} {p q : Rat} {E : XK} (a : Am K H v p) (b : Am K H w q) (z1 : Sz 4000 p) (z2 : Sz 4000 q) (k : ∀ v H', Ext [] H H' → Am K H' v (lmin p q) → Q v H') : spMin minQ K [v, w] H Q E :=
  ⟨p, [q], Ams.cons a (Ams.cons b Ams.nil), fun x hx => by
    rcases List.mem_cons.mp hx with rfl | hx
    · exact z1
    · rw [List.mem_singleton.mp hx]; exact z2, by simp, k⟩
theorem k_max2 {v w : V} {p q : Rat} {E : XK} (a : Am K H v p) (b : Am K H w q) (z1 : Sz 4000 p) (z2 : Sz 4000 q) (k : ∀ v H', Ext [] H H' → Am K H' v (lmax p q) → Q v H') : spMin maxQ K [v, w] H Q E :=
  ⟨p, [q], Ams.cons a (Ams.cons b Ams.nil), fun x hx => by
    rcases List.mem_cons.mp hx with rfl | hx
    · exact z1
    · rw [List.mem_singleton.mp hx]; exact z2, by simp, fun v H' e c => k v H' e (by rw [← maxQ1]; exact c)⟩
theorem sz_min {m : Nat} {p q : Rat} (h : Sz m p) (g : Sz m q) : Sz m (lmin p q) := by unfold lmin; split <;> assumption
theorem sz_max {m : Nat} {p q : Rat} (h : Sz m p) (g : Sz m q) : Sz m (lmax p q) := by unfold lmax; split <;> assumption
end
section
variable {P : Program} {w : World} {K : PySem.W.Frag} {mg : Str → Option Value} {base : Heap} {f : Addr} {fd : FuncData}
def ManSz (n : Nat) (man : Option (Rat × Rat)) : Prop := ∀ l u, man = some (l, u) → Sz n l ∧ Sz n u
def spShare (K : PySem.W.Frag) : Sp := fun vs H Q _ => ∃ (m x : V) (wt : Nat) (man : Option (Rat × Rat)) (q : Rat), vs = [m, .int (wt : Int), x] ∧ ManIs K H m man ∧ Am K H x q ∧ wt ≤ 12 ∧ ManSz 2000 man ∧ Sz 2000 q ∧ RetAm K H Q (shq man wt q)
abbrev s_share : Stmt := top 15
theorem c_share : FnScope ["manner", "weight", "level", "least", "most"] ["manner", "weight", "level"] (defScope s_share) := ⟨rfl, rfl, rfl, by decide +kernel, rfl, by decide +kernel, by decide +kernel⟩
theorem f_share (F : FunD K "share" "share" (defArgs s_share) (defBody s_share) (defScope s_share) [] [] f fd) (hm : mg "share" = some (.ref f)) (TZ : ∃ z, mg "ZERO" = some (.ref z) ∧ ∀ H, SqT K H z [.int 0, .int 1]) (Ftimes : Fn P w K mg base 2 "times" (spTimes K)) (Fsmallest : Fn P w K mg base 2 "smallest" (spMin minQ K)) (Flargest : Fn P w K mg base 2 "largest" (spMin maxQ K)) : FnOk P w K mg base CX0 3 f fd ["manner", "weight", "level"] (spShare K) := by
  refine ok_def F c_share (fun vs H Q E h => ?_) (fun cdv A outer s H vs Q E hr h => ?_)
  · obtain ⟨m, x, wt, man, q, rfl, _⟩ := h
    rfl
  · obtain ⟨m, x, wt, man, q, rfl, hm, hx, h12, zm, zx, k⟩ := h
    have nd := c_share.nd
    obtain ⟨z, mz, hz⟩ := TZ
    refine ⟨_, (pss_cons (ps_if (pt_cmpR (op_eqD hr.units) (pv 0) (pe_tup pa_nil) (nomark _))
        (pss_one (ps_ret (pe_glob (v := .ref z) rfl mz rfl)))
        pss_nil)
      (pss_cons (ps_asg (pv 0) (pg_tup rfl (pgs_cons (pg_name (i := 3) nd rfl (by first | exact Or.inl rfl | exact Or.inr rfl)) (pgs_cons (pg_name (i := 4) nd rfl (by first | exact Or.inl rfl | exact Or.inr rfl)) pgs_nil))))
      (pss_one (ps_ret (pe_fn Flargest (hr.mono (by decide)) (pa_cons (pv 3) (pa_cons (pe_fn Fsmallest (hr.mono (by decide)) (pa_cons (pv 4) (pa_cons (pe_fn Ftimes (hr.mono (by decide)) (pa_cons (pe_tup (pa_cons (pv 1) (pa_cons pe_int pa_nil))) (pa_cons (pv 2) pa_nil))) pa_nil))) pa_nil))))))), ?_⟩
    show (_ : TS) _ [some _, some _, some _, none, none] _
    try dsimp only [cxOf, Cx.nox]
    walk_at "go"
    refine eq_man (hm.x0 (Ext.refl.new (by assumption))) tupS ?_
    walk_at "go"
    cases man with
    | none =>
      walk_at "run"
      exact k _ _ (by walk_at "ext") ⟨z, rfl, hz _⟩
    | some p =>
      obtain ⟨l, u⟩ := p
      obtain ⟨zl, zu⟩ := zm l u rfl
      obtain ⟨a, v1, v2, rfl, ht, a1, a2⟩ := hm
      walk_at "run"
      refine k_times (am_nat tupS) (by walk_at "am") ((sz_nat (m := 4) (by omega) (by decide)).mono (by decide)) (zx.mono (by decide)) fun v3 H3 n3 a3 => ?_
      walk_at "go"
      have z3 : Sz 2004 ((wt : Rat) * q) := (sz_mul (sz_nat (m := 4) (by omega) (by decide)) zx).mono (by decide)
      refine k_min2 (by walk_at "am") a3 (zu.mono (by decide)) (z3.mono (by decide)) fun v4 H4 n4 a4 => ?_
      walk_at "go"
      have z4 : Sz 4000 (lmin u ((wt : Rat) * q)) := sz_min (zu.mono (by decide)) (z3.mono (by decide))
      refine k_max2 (by walk_at "am") a4 (zl.mono (by decide)) z4 fun v5 H5 n5 a5 => ?_
      walk_at "go"
      exact k _ _ (by walk_at "ext") a5
/-- rows of shares, carried through a list of them -/
theorem rowSz {X M j m : Nat} {r : Row} (h : RowOk X M r) (h0 : 0 < X) (hX : X ≤ 2 ^ j) (hM : M ≤ 2 ^ m) : ManSz (j + m + 1) r.man ∧ Sz (j + m + 1) r.b := ⟨fun l u e => ⟨(h.m l u e).1.sz h0 hX hM, (h.m l u e).2.sz h0 hX hM⟩, h.b.sz h0 hX hM⟩
/-- amounts in the row, all in step -/
structure TotOk (X M N : Nat) (rows : List Row) (x : Rat) : Prop where
  X0 : 0 < X
  X9 : X ≤ 2 ^ 400
  M9 : M ≤ 2 ^ 20
  N9 : N ≤ 2 ^ 120
  row : ∀ r ∈ rows, RowOk X M r
  x : In X N x
  n : rows.length ≤ 8
def spTotal (K : PySem.W.Frag) : Sp := fun vs H Q _ => ∃ (a : Addr) (xs : List V) (rows : List Row) (v : V) (x : Rat) (X M N : Nat), vs = [.ref a, v] ∧ SqQ K H a xs ∧ RowsIs K H xs rows ∧ Am K H v x ∧ TotOk X M N rows x ∧ RetAm K H Q (tot rows x)
theorem take_map {α : Type} {f : Row → α} {rows : List Row} {i : Nat} {r : Row} (h : rows[i]? = some r) : (rows.take (i + 1)).map f = (rows.take i).map f ++ [f r] := by
  obtain ⟨hl, e⟩ := List.getElem?_eq_some_iff.mp h
  rw [← List.take_append_getElem hl, List.map_append, e]
  rfl
end
end Yk

set_option maxHeartbeats 4000000
namespace Yk
open PySem PySem.Spec PyProof.Rows L2

section
variable {P : Program} {w : World} {K : PySem.W.Frag} {mg : Str → Option Value} {base : Heap} {f : Addr} {fd : FuncData}
/-- rising -/
abbrev Asc (qs : List Rat) : Prop := qs.Pairwise (· ≤ ·)
theorem asc_snoc {qs : List Rat} {q : Rat} (h : Asc qs) (g : ∀ x ∈ qs, x ≤ q) : Asc (qs ++ [q]) := List.pairwise_append.mpr ⟨h, List.pairwise_singleton _ _, fun x hx y hy => by rw [List.mem_singleton.mp hy]; exact g x hx⟩
theorem asc_get {qs : List Rat} (h : Asc qs) {i j : Nat} {x y : Rat} (hi : qs[i]? = some x) (hj : qs[j]? = some y) (e : i ≤ j) : x ≤ y := by
  obtain ⟨hi, rfl⟩ := List.getElem?_eq_some_iff.mp hi
  obtain ⟨hj, rfl⟩ := List.getElem?_eq_some_iff.mp hj
  rcases Nat.lt_or_eq_of_le e with e | rfl
  · exact List.pairwise_iff_getElem.mp h i j _ _ e
  · exact Rat.le_refl
structure Mid (ps qs : List Rat) (n j : Nat) (rs : List Rat) : Prop where
  perm : rs.Perm (ps.take n ++ qs.take j)
  asc : Asc rs
  p : ∀ x ∈ rs, ∀ y ∈ ps.drop n, x ≤ y
  q : ∀ x ∈ rs, ∀ y ∈ qs.drop j, x ≤ y
theorem drop_get {ps : List Rat} {n : Nat} {x : Rat} (h : ps[n]? = some x) : ps.drop n = x :: ps.drop (n + 1) := by
  obtain ⟨hl, rfl⟩ := List.getElem?_eq_some_iff.mp h
  exact List.drop_eq_getElem_cons hl
theorem take_get {ps : List Rat} {n : Nat} {x : Rat} (h : ps[n]? = some x) : ps.take (n + 1) = ps.take n ++ [x] := by
  obtain ⟨hl, rfl⟩ := List.getElem?_eq_some_iff.mp h
  exact (List.take_append_getElem hl).symm
theorem asc_drop {ps : List Rat} (h : Asc ps) {n : Nat} {x : Rat} (hx : ps[n]? = some x) : ∀ y ∈ ps.drop (n + 1), x ≤ y := by
  have h1 : Asc (ps.drop n) := h.sublist (List.drop_sublist n ps)
  rw [drop_get hx] at h1
  exact (List.pairwise_cons.mp h1).1
theorem Mid.fst {ps qs rs : List Rat} {n j : Nat} (m : Mid ps qs n j rs) (hp : Asc ps) (hq : Asc qs) {x y : Rat} (hx : ps[n]? = some x) (hy : qs[j]? = some y) (e : x ≤ y) : Mid ps qs (n + 1) j (rs ++ [x]) := by
  have dx := drop_get hx
  have dy := drop_get hy
  have xm : x ∈ ps.drop n := by rw [dx]; exact List.mem_cons_self
  refine ⟨?_, asc_snoc m.asc fun z hz => m.p z hz x xm, fun z hz u hu => ?_, fun z hz u hu => ?_⟩
  · rw [take_get hx]
    refine (m.perm.append_right [x]).trans ?_
    rw [List.append_assoc, List.append_assoc]
    exact (List.perm_append_comm).append_left _
  · have hu2 : u ∈ ps.drop n := by rw [dx]; exact List.mem_cons_of_mem _ hu
    rcases List.mem_append.mp hz with hz | hz
    · exact m.p z hz u hu2
    · rw [List.mem_singleton.mp hz]; exact asc_drop hp hx u hu
  · rcases List.mem_append.mp hz with hz | hz
    · exact m.q z hz u hu
    · rw [List.mem_singleton.mp hz]
      rw [dy] at hu
      rcases List.mem_cons.mp hu with rfl | hu
      · exact e
      · exact Rat.le_trans e (asc_drop hq hy u hu)
theorem Mid.snd {ps qs rs : List Rat} {n j : Nat} (m : Mid ps qs n j rs) (hp : Asc ps) (hq : Asc qs) {y : Rat} (hy : qs[j]? = some y) (e : ∀ x, ps[n]? = some x → y ≤ x) : Mid ps qs n (j + 1) (rs ++ [y]) := by
  have dy := drop_get hy
  have ym : y ∈ qs.drop j := by rw [dy]; exact List.mem_cons_self
  refine ⟨?_, asc_snoc m.asc fun z hz => m.q z hz y ym, fun z hz u hu => ?_, fun z hz u hu => ?_⟩
  · rw [take_get hy, ← List.append_assoc]
    exact m.perm.append_right [y]
  · rcases List.mem_append.mp hz with hz | hz
    · exact m.p z hz u hu
    · rw [List.mem_singleton.mp hz]
      cases hx : ps[n]? with
      | none =>
        rw [List.drop_eq_nil_of_le (List.getElem?_eq_none_iff.mp hx)] at hu
        cases hu
      | some x =>
        rw [drop_get hx] at hu
        rcases List.mem_cons.mp hu with rfl | hu
        · exact e _ hx
        · exact Rat.le_trans (e x hx) (asc_drop hp hx u hu)
  · have hu2 : u ∈ qs.drop j := by rw [dy]; exact List.mem_cons_of_mem _ hu
    rcases List.mem_append.mp hz with hz | hz
    · exact m.q z hz u hu2
    · rw [List.mem_singleton.mp hz]; exact asc_drop hq hy u hu
theorem Mid.done {ps qs rs : List Rat} {n : Nat} (m : Mid ps qs n qs.length rs) (hp : Asc ps) : (rs ++ ps.drop n).Perm (ps ++ qs) ∧ Asc (rs ++ ps.drop n) := by
  constructor
  · have h := m.perm.append_right (ps.drop n)
    rw [List.take_length] at h
    refine h.trans ?_
    rw [List.append_assoc]
    refine (List.perm_append_comm.append_left _).trans ?_
    rw [← List.append_assoc, List.take_append_drop]
  · exact List.pairwise_append.mpr ⟨m.asc, hp.sublist (List.drop_sublist n ps), m.p⟩
def spMerged (K : PySem.W.Frag) : Sp := fun vs H Q _ => ∃ (a b : Addr) (xs ys : List V) (ps qs : List Rat), vs = [.ref a, .ref b] ∧ SqL K H a xs ∧ SqL K H b ys ∧ Ams K H xs ps ∧ Ams K H ys qs ∧ Asc ps ∧ Asc qs ∧ (∀ q ∈ ps, Sz 4000 q) ∧ (∀ q ∈ qs, Sz 4000 q) ∧ ps.length ≤ 1000 ∧ qs.length ≤ 1000 ∧
  ∀ (c : Addr) (zs : List V) (rs : List Rat) H', H' c = some (.lst zs) → Ams K H' zs rs → rs.Perm (ps ++ qs) → Asc rs → Ext [] H H' → Q (.ref c) H'
theorem cmpQ_le {p q : Rat} : cmpQ p q ≤ 0 ↔ p ≤ q := by unfold cmpQ; grind
theorem cmpQ_lt {p q : Rat} : cmpQ p q < 0 ↔ p < q := by unfold cmpQ; grind
def spAsc (K : PySem.W.Frag) : Nat → Sp
  | 0 => fun _ _ _ _ => False
  | n + 1 => fun vs H Q _ => ∃ (a : Addr) (xs : List V) (ps : List Rat), vs = [.ref a] ∧ SqL K H a xs ∧ Ams K H xs ps ∧ (∀ q ∈ ps, Sz 4000 q) ∧ ps.length ≤ 2 ^ n ∧ ps.length ≤ 500 ∧
    ∀ (c : Addr) (zs : List V) (rs : List Rat) H', H' c = some (.lst zs) → Ams K H' zs rs → rs.Perm ps → Asc rs → Ext [] H H' → Q (.ref c) H'
end
end Yk

set_option maxHeartbeats 4000000
namespace Yk
open PySem PySem.Spec PyProof.Rows L2

def pbrk (r : Row) : List Rat := match r.man with
  | none => []
  | some (l, m) => [l / (r.w : Rat), m / (r.w : Rat), r.b]
def allBrk (rows : List Row) (top : Rat) : List Rat := (0 :: top :: rows.flatMap pbrk).filter fun q => decide (q ≤ top)
structure LevOk (D E M B : Nat) (rows : List Row) (goal top : Rat) : Prop where
  D0 : 0 < D
  row : ∀ r ∈ rows, RowOk D M r
  n : rows.length ≤ 8
  de : D * 27720 ∣ E
  E0 : 0 < E
  E9 : E ≤ 2 ^ 140
  B9 : B ≤ 2 ^ 20
  MB : 8 * M ≤ B
  goal : In E B goal
  top : In E M top
section
variable {D E M B : Nat} {rows : List Row} {goal top : Rat}
theorem LevOk.rowE (h : LevOk D E M B rows goal top) : ∀ r ∈ rows, RowOk E M r := fun r hr => (h.row r hr).up (Nat.dvd_trans (Nat.dvd_mul_right _ _) h.de)
theorem LevOk.brk (h : LevOk D E M B rows goal top) : ∀ r ∈ rows, ∀ p ∈ pbrk r, In E M p := fun r hr p hp => by
  have h1 := in_brk (h.row r hr)
  unfold pbrk at hp
  unfold Row.brk at h1
  split at hp
  · cases hp
  · rename_i l m e
    rw [e] at h1
    exact (h1 p hp).up h.de
theorem LevOk.all (h : LevOk D E M B rows goal top) : ∀ p ∈ allBrk rows top, In E M p ∧ p ≤ top := fun p hp => by
  obtain ⟨h1, h2⟩ := List.mem_filter.mp hp
  have h3 : p ≤ top := of_decide_eq_true h2
  refine ⟨?_, h3⟩
  rcases List.mem_cons.mp h1 with rfl | h1
  · exact In.zero
  · rcases List.mem_cons.mp h1 with rfl | h1
    · exact h.top
    · obtain ⟨r, hr, hp⟩ := List.mem_flatMap.mp h1
      exact h.brk r hr p hp
theorem LevOk.tot (h : LevOk D E M B rows goal top) {X N : Nat} {x : Rat} (hx : In X N x) (he : E ∣ X) : In X B (tot rows x) :=
  (tot_in hx fun r hr => (h.rowE r hr).up he).most (Nat.le_trans (Nat.mul_le_mul_right M h.n) h.MB)
theorem LevOk.M9 (h : LevOk D E M B rows goal top) : M ≤ 2 ^ 20 := by have := h.MB; have := h.B9; omega
theorem zero_mem (h : LevOk D E M B rows goal top) : (0 : Rat) ∈ allBrk rows top := List.mem_filter.mpr ⟨List.mem_cons_self, decide_eq_true h.top.nn⟩
theorem top_mem : top ∈ allBrk rows top := List.mem_filter.mpr ⟨List.mem_cons_of_mem _ List.mem_cons_self, decide_eq_true Rat.le_refl⟩
/-- where the goal is reached first -/
structure First (T : Rat → Rat) (goal : Rat) (rs : List Rat) (n : Nat) : Prop where
  le : n ≤ rs.length
  lo : ∀ k q, n = k + 1 → rs[k]? = some q → T q < goal
  hi : ∀ q, rs[n]? = some q → goal ≤ T q
variable {rs : List Rat} {n : Nat}
theorem first_top (h : LevOk D E M B rows goal top) (p : rs.Perm (allBrk rows top)) (as : Asc rs) (f : First (Yk.tot rows) goal rs rs.length) : IsLev (Yk.tot rows) top goal top := by
  refine lev_top (fun x y => tot_mono rows) h.top.nn ?_
  obtain ⟨i, hi⟩ := List.getElem?_of_mem (p.symm.subset (top_mem (rows := rows) (top := top)))
  have hil := (List.getElem?_eq_some_iff.mp hi).1
  have hk := List.getElem?_eq_getElem (show rs.length - 1 < rs.length by omega)
  have h1 := asc_get as hi hk (by omega)
  have h2 := (h.all _ (p.subset (List.mem_of_getElem? hk))).2
  have e : rs[rs.length - 1]'(by omega) = top := by grind
  rw [e] at hk
  exact f.lo (rs.length - 1) top (by omega) hk
theorem first_zero (h : LevOk D E M B rows goal top) (p : rs.Perm (allBrk rows top)) (as : Asc rs) (f : First (Yk.tot rows) goal rs 0) {q : Rat} (hq : rs[0]? = some q) : q = 0 ∧ IsLev (Yk.tot rows) top goal 0 := by
  obtain ⟨i, hi⟩ := List.getElem?_of_mem (p.symm.subset (zero_mem h))
  have h1 := asc_get as hq hi (Nat.zero_le _)
  have h2 := (h.all q (p.subset (List.mem_of_getElem? hq))).1.nn
  have e : q = 0 := by grind
  subst e
  exact ⟨rfl, lev_zero h.top.nn (f.hi _ hq)⟩
theorem first_mid (h : LevOk D E M B rows goal top) (p : rs.Perm (allBrk rows top)) (as : Asc rs) (f : First (Yk.tot rows) goal rs (n + 1)) {l u : Rat} (hl : rs[n]? = some l) (hu : rs[n + 1]? = some u) :
    Yk.tot rows l < goal ∧ goal ≤ Yk.tot rows u ∧ In E M l ∧ In E M u ∧ l ≤ u ∧ u ≤ top ∧ Lin (Yk.tot rows) l u := by
  have hlu := asc_get as hl hu (by omega)
  have il := h.all l (p.subset (List.mem_of_getElem? hl))
  have iu := h.all u (p.subset (List.mem_of_getElem? hu))
  refine ⟨f.lo n l rfl hl, f.hi u hu, il.1, iu.1, hlu, iu.2, lin_tot rows (fun r hr => (h.row r hr).w0) hlu fun r hr hm q hq => ?_⟩
  by_cases hqt : q ≤ top
  · have hq2 : q ∈ pbrk r := by
      unfold pbrk
      unfold Row.brk at hq
      split
      · rename_i e
        exact absurd e hm
      · rename_i l m e
        rw [e] at hq
        exact hq
    have hqa : q ∈ allBrk rows top := List.mem_filter.mpr ⟨List.mem_cons_of_mem _ (List.mem_cons_of_mem _ (List.mem_flatMap.mpr ⟨r, hr, hq2⟩)), decide_eq_true hqt⟩
    obtain ⟨i, hi⟩ := List.getElem?_of_mem (p.symm.subset hqa)
    rcases Nat.lt_or_ge n i with hni | hni
    · exact .inr (asc_get as hu hi hni)
    · exact .inl (asc_get as hi hl hni)
  · have := iu.2
    exact .inr (by grind)
end
section
variable {P : Program} {w : World} {K : PySem.W.Frag} {mg : Str → Option Value} {base : Heap} {f : Addr} {fd : FuncData}
def spBreaks (K : PySem.W.Frag) : Sp := fun vs H Q _ => ∃ (a : Addr) (t : V) (xs : List V) (rows : List Row) (D E M B : Nat) (goal top : Rat), vs = [.ref a, t] ∧ SqQ K H a xs ∧ RowsIs K H xs rows ∧ Am K H t top ∧ LevOk D E M B rows goal top ∧
  ∀ (c : Addr) (zs : List V) (rs : List Rat) H', H' c = some (.lst zs) → Ams K H' zs rs → rs.Perm (allBrk rows top) → Asc rs → Ext [] H H' → Q (.ref c) H'
theorem flat_take {rows : List Row} {i : Nat} {r : Row} (h : rows[i]? = some r) : (rows.take (i + 1)).flatMap pbrk = (rows.take i).flatMap pbrk ++ pbrk r := by
  obtain ⟨hl, e⟩ := List.getElem?_eq_some_iff.mp h
  rw [← List.take_append_getElem hl, List.flatMap_append, e]
  simp
theorem pbrk_len (r : Row) : (pbrk r).length ≤ 3 := by unfold pbrk; split <;> simp
theorem flat_len : ∀ (rows : List Row), (rows.flatMap pbrk).length ≤ 3 * rows.length
  | [] => by simp
  | r :: t => by
    have := flat_len t
    have := pbrk_len r
    rw [List.flatMap_cons, List.length_append, List.length_cons]
    omega
theorem k_over' {H : Hp} {Q : VK} {E : XK} {v1 v2 : V} {p : Rat} {wt : Nat} (a1 : Am K H v1 p) (a2 : Am K H v2 (wt : Rat)) (h0 : 0 < wt) (h12 : wt ≤ 12) (z1 : Sz 4000 p) (k : ∀ v H', Ext [] H H' → Am K H' v (p / (wt : Rat)) → Q v H') : spOver K [v1, v2] H Q E :=
  k_over a1 a2 (natP h0) z1 ((sz_nat (m := 4) (by omega) (by decide)).mono (by decide)) k
def spFirst (K : PySem.W.Frag) : Sp := fun vs H Q _ => ∃ (g : V) (a c : Addr) (xs zs : List V) (rows : List Row) (rs : List Rat) (D E M B : Nat) (goal top : Rat), vs = [g, .ref a, .ref c] ∧ SqQ K H a xs ∧ RowsIs K H xs rows ∧ Am K H g goal ∧ LevOk D E M B rows goal top ∧ SqL K H c zs ∧ Ams K H zs rs ∧ (∀ q ∈ rs, In E M q) ∧ rs.length ≤ 500 ∧
  ∀ (n : Nat) H', First (tot rows) goal rs n → Ext [] H H' → Q (.int (n : Int)) H'
theorem LevOk.ok {D E M B : Nat} {rows : List Row} {goal top : Rat} (L : LevOk D E M B rows goal top) {q : Rat} (h : In E M q) : TotOk E M M rows q :=
  ⟨L.E0, Nat.le_trans L.E9 (Nat.pow_le_pow_right (by decide) (by decide)), L.M9, Nat.le_trans L.M9 (by decide), L.rowE, h, L.n⟩
def spOnLine (K : PySem.W.Frag) : Sp := fun vs H Q _ => ∃ (g vl vu : V) (a : Addr) (xs : List V) (rows : List Row) (D E M B : Nat) (goal top l u : Rat), vs = [g, .ref a, vl, vu] ∧ SqQ K H a xs ∧ RowsIs K H xs rows ∧ Am K H g goal ∧ LevOk D E M B rows goal top ∧ Am K H vl l ∧ Am K H vu u ∧ In E M l ∧ In E M u ∧ l ≤ u ∧ tot rows l < goal ∧ goal ≤ tot rows u ∧ RetAm K H Q (onl (tot rows) goal l u)
end
end Yk

set_option maxHeartbeats 4000000
namespace Yk
open PySem PySem.Spec PyProof.Rows L2

section
variable {P : Program} {w : World} {K : PySem.W.Frag} {mg : Str → Option Value} {base : Heap} {f : Addr} {fd : FuncData}
def RetLev (K : PySem.W.Frag) (H : Hp) (Q : VK) (E M : Nat) (rows : List Row) (goal top : Rat) : Prop := ∀ v y X H', IsLev (tot rows) top goal y → 0 < X → E ∣ X → X ≤ 2 ^ 310 → In X M y → Ext [] H H' → Am K H' v y → Q v H'
def spLeast (K : PySem.W.Frag) : Sp := fun vs H Q _ => ∃ (g t : V) (a : Addr) (xs : List V) (rows : List Row) (D E M B : Nat) (goal top : Rat), vs = [g, .ref a, t] ∧ SqQ K H a xs ∧ RowsIs K H xs rows ∧ Am K H g goal ∧ Am K H t top ∧ LevOk D E M B rows goal top ∧ RetLev K H Q E M rows goal top
theorem e_le_220 {E : Nat} (h : E ≤ 2 ^ 140) : E ≤ 2 ^ 310 := Nat.le_trans h (by decide)
theorem onl_lev {D E M B : Nat} {rows : List Row} {goal top l u : Rat} (L : LevOk D E M B rows goal top) (g1 : tot rows l < goal) (g2 : goal ≤ tot rows u) (il : In E M l) (iu : In E M u) (lu : l ≤ u) (ut : u ≤ top) (hl : Lin (tot rows) l u) :
    IsLev (tot rows) top goal (onl (tot rows) goal l u) ∧ ∃ X, 0 < X ∧ E ∣ X ∧ X ≤ 2 ^ 310 ∧ In X M (onl (tot rows) goal l u) := by
  refine ⟨(lev_line (fun x y => tot_mono rows) il.nn lu ut hl g1 g2).1, ?_⟩
  obtain ⟨X, h1, h2, h3, h4, _⟩ := In.onl L.E0 L.goal (L.tot il (Nat.dvd_refl _)) (L.tot iu (Nat.dvd_refl _)) il iu g1 g2 lu
  refine ⟨X, h1, h2, Nat.le_trans h3 (Nat.le_trans (Nat.mul_le_mul L.E9 (Nat.mul_le_mul L.B9 L.E9)) (by decide)), h4⟩
def spLevel (K : PySem.W.Frag) : Sp := fun vs H Q _ => ∃ (g : V) (a : Addr) (xs : List V) (rows : List Row) (D E M B : Nat) (goal : Rat), vs = [g, .ref a] ∧ SqQ K H a xs ∧ RowsIs K H xs rows ∧ Am K H g goal ∧ LevOk D E M B rows goal 1000 ∧ RetLev K H Q E M rows goal 1000
/-! the law's own -/
theorem mk_sub {p q : Rat} : mkRat (p.num * q.den - q.num * p.den) (p.den * q.den) = p - q := by
  rw [Rat.sub_def, Rat.normalize_eq_mkRat]
def spLShare (K : PySem.W.Frag) : Sp := fun vs H Q _ => ∃ (m x : V) (r : Row) (q : Rat) (X M N : Nat), vs = [m, .int (r.w : Int), x] ∧ ManIs K H m r.man ∧ Am K H x q ∧ RowOk X M r ∧ In X N q ∧ 0 < X ∧ X ≤ 2 ^ 400 ∧ M ≤ 2 ^ 20 ∧ N ≤ 2 ^ 120 ∧ RetAm K H Q (shq r.man r.w q)
def spLTotal (K : PySem.W.Frag) : Sp := fun vs H Q _ => ∃ (a : Addr) (xs : List V) (rows : List Row) (v : V) (x : Rat) (X M N : Nat), vs = [.ref a, v] ∧ SqL K H a xs ∧ RowsIs K H xs rows ∧ Am K H v x ∧ TotOk X M N rows x ∧ RetAm K H Q (tot rows x)
/-- what the law's own list of breaks must hold -/
structure BrkOk (D E M : Nat) (rows : List Row) (rs : List Rat) : Prop where
  inn : ∀ q ∈ rs, In E M q ∧ q ≤ 1000
  all : ∀ r ∈ rows, r.man ≠ none → ∀ p ∈ r.brk, p ≤ 1000 → p ∈ rs
  z : 0 < rs.length
  n : rs.length ≤ 26
def lbrk (r : Row) : List Rat := r.b :: pbrk' r
where pbrk' (r : Row) : List Rat := match r.man with
  | none => []
  | some (l, m) => [l / (r.w : Rat), m / (r.w : Rat)]
theorem lflat_take {rows : List Row} {i : Nat} {r : Row} (h : rows[i]? = some r) : (rows.take (i + 1)).flatMap lbrk = (rows.take i).flatMap lbrk ++ lbrk r := by
  obtain ⟨hl, e⟩ := List.getElem?_eq_some_iff.mp h
  rw [← List.take_append_getElem hl, List.flatMap_append, e]
  simp
theorem lbrk_len (r : Row) : (lbrk r).length ≤ 3 := by unfold lbrk lbrk.pbrk'; split <;> simp
theorem lflat_len : ∀ (rows : List Row), (rows.flatMap lbrk).length ≤ 3 * rows.length
  | [] => by simp
  | r :: t => by
    have := lflat_len t
    have := lbrk_len r
    rw [List.flatMap_cons, List.length_append, List.length_cons]
    omega
theorem lbrk_brk {r : Row} {p : Rat} (h : p ∈ lbrk r) : p ∈ r.brk := by
  obtain ⟨man, w, b⟩ := r
  cases man with
  | none => simpa [lbrk, lbrk.pbrk', Row.brk] using h
  | some q =>
    obtain ⟨l, m⟩ := q
    simp [lbrk, lbrk.pbrk', Row.brk] at h ⊢
    grind
theorem brk_lbrk {r : Row} {p : Rat} (h : p ∈ r.brk) : p ∈ lbrk r := by
  obtain ⟨man, w, b⟩ := r
  cases man with
  | none => simpa [lbrk, lbrk.pbrk', Row.brk] using h
  | some q =>
    obtain ⟨l, m⟩ := q
    simp [lbrk, lbrk.pbrk', Row.brk] at h ⊢
    grind
theorem brk_ok {D E M : Nat} {rows : List Row} (row : ∀ r ∈ rows, RowOk D M r) (n : rows.length ≤ 8) (de : D * 27720 ∣ E) (m : 1000 ≤ M) : BrkOk D E M rows ((0 :: 1000 :: rows.flatMap lbrk).filter fun q => decide (q ≤ 1000)) := by
  refine ⟨fun q hq => ?_, fun r hr hm p hp hp2 => ?_, ?_, ?_⟩
  · obtain ⟨h1, h2⟩ := List.mem_filter.mp hq
    refine ⟨?_, of_decide_eq_true h2⟩
    rcases List.mem_cons.mp h1 with rfl | h1
    · exact In.zero
    · rcases List.mem_cons.mp h1 with rfl | h1
      · exact In.nat (n := 1000) m
      · obtain ⟨r, hr, hp⟩ := List.mem_flatMap.mp h1
        exact (in_brk (row r hr) q (lbrk_brk hp)).up de
  · exact List.mem_filter.mpr ⟨List.mem_cons_of_mem _ (List.mem_cons_of_mem _ (List.mem_flatMap.mpr ⟨r, hr, brk_lbrk hp⟩)), decide_eq_true hp2⟩
  · exact List.length_pos_of_mem (List.mem_filter.mpr ⟨List.mem_cons_self, decide_eq_true (by decide)⟩)
  · have h2 : ((0 :: 1000 :: rows.flatMap lbrk).filter fun q => decide (q ≤ 1000)).length ≤ (0 :: 1000 :: rows.flatMap lbrk).length := List.length_filter_le _ _
    have h3 := lflat_len rows
    rw [List.length_cons, List.length_cons] at h2
    omega
end
end Yk

set_option maxHeartbeats 4000000
namespace Yk
open PySem PySem.Spec PyProof.Rows L2

section
variable {P : Program} {w : World} {K : PySem.W.Frag} {mg : Str → Option Value} {base : Heap} {f : Addr} {fd : FuncData}
def spLBreaks (K : PySem.W.Frag) : Sp := fun vs H Q _ => ∃ (a : Addr) (xs : List V) (rows : List Row) (D E M : Nat), vs = [.ref a] ∧ SqL K H a xs ∧ RowsIs K H xs rows ∧ (∀ r ∈ rows, RowOk D M r) ∧ rows.length ≤ 8 ∧ D * 27720 ∣ E ∧ 0 < E ∧ E ≤ 2 ^ 140 ∧ M ≤ 2 ^ 20 ∧ 1000 ≤ M ∧
  ∀ (c : Addr) (zs : List V) (rs : List Rat) H', H c = none → H' c = some (.lst zs) → Ams K H' zs rs → BrkOk D E M rows rs → Ext [] H H' → Q (.ref c) H'
theorem pair_div {wt : Nat} {q : Rat} (h : 0 ≤ q) (hw : 0 < wt) : mkRat ((q.num.toNat : Nat) : Int) (q.den * wt) = q / (wt : Rat) := by
  have hn := num_nn h
  have w0 := natP hw
  have d0 := natP q.den_pos
  have e2 : (q.num : Rat) / (q.den : Rat) = q := by rw [← Rat.mkRat_eq_div]; exact Rat.mkRat_self q
  rw [Int.toNat_of_nonneg hn, Rat.mkRat_eq_div]
  push_cast
  grind
abbrev s_law_breaks : Stmt := top 37
theorem c_law_breaks : FnScope ["_law_rows", "_law_found", "_law_row", "_law_x"] ["_law_rows"] (defScope s_law_breaks) := ⟨rfl, rfl, rfl, by decide +kernel, rfl, by decide +kernel, by decide +kernel⟩
theorem f_law_breaks (F : FunD K "_law_breaks" "_law_breaks" (defArgs s_law_breaks) (defBody s_law_breaks) (defScope s_law_breaks) [] [] f fd) (hm : mg "_law_breaks" = some (.ref f)) (F_law_pair : Fn P w K mg base 1 "_law_pair" (spPair K)) (F_law_more : Fn P w K mg base 1 "_law_more" (spMore K)) : Fn P w K mg base 2 "_law_breaks" (spLBreaks K) := by
  refine fn_def F hm c_law_breaks (fun vs H Q E h => ?_) (fun _ _ _ _ _ _ us hl => match us, hl with | [_], _ => rfl) (fun cdv A outer s H vs Q E hr h => ?_)
  · obtain ⟨a, xs, rows, D, E, M, rfl, _⟩ := h
    rfl
  · obtain ⟨a, xs, rows, D, E, M, rfl, ha, hrows, hok, nr, de, E0, E9, M9, M1, k⟩ := h
    have nd := c_law_breaks.nd
    refine ⟨_, (pss_cons (ps_set (i := 1) nd rfl (by first | exact Or.inl rfl | exact Or.inr rfl) (pe_lst (pa_cons (pe_tup (pa_cons pe_int (pa_cons pe_int pa_nil))) (pa_cons (pe_tup (pa_cons pe_int (pa_cons pe_int pa_nil))) pa_nil))))
      (pss_mid (ps_for PassesOwn.never rfl (pi_list (pv 0)) (pg_name (i := 2) nd rfl (by first | exact Or.inl rfl | exact Or.inr rfl))
        (pss_cons (ps_expr (pe_bm PySem.F.plainAttrs_list PySem.F.slot_list_append PySem.F.type_list_append mt_append (pv 1) (pa_cons (pe_ix ix_tup (pv 2) pe_int (fun _ _ => rfl)) pa_nil)))
        (pss_one (ps_if (pt_cmpR (op_neD hr.units) (pe_ix ix_tup (pv 2) pe_int (fun _ _ => rfl)) (pe_tup pa_nil) (nomark _))
          (pss_one (ps_expr (pe_bm PySem.F.plainAttrs_list PySem.F.slot_list_extend PySem.F.type_list_extend mt_extend (pv 1) (pa_cons (pe_lst (pa_cons (pe_fn F_law_pair (hr.mono (by decide)) (pa_cons (pe_ix ix_tup (pe_ix ix_tup (pe_ix ix_tup (pv 2) pe_int (fun _ _ => rfl)) pe_int (fun _ _ => rfl)) pe_int (fun _ _ => rfl)) (pa_cons (pe_op op_mulW (pe_ix ix_tup (pe_ix ix_tup (pe_ix ix_tup (pv 2) pe_int (fun _ _ => rfl)) pe_int (fun _ _ => rfl)) pe_int (fun _ _ => rfl)) (pe_ix ix_tup (pv 2) pe_int (fun _ _ => rfl))) pa_nil))) (pa_cons (pe_fn F_law_pair (hr.mono (by decide)) (pa_cons (pe_ix ix_tup (pe_ix ix_tup (pe_ix ix_tup (pv 2) pe_int (fun _ _ => rfl)) pe_int (fun _ _ => rfl)) pe_int (fun _ _ => rfl)) (pa_cons (pe_op op_mulW (pe_ix ix_tup (pe_ix ix_tup (pe_ix ix_tup (pv 2) pe_int (fun _ _ => rfl)) pe_int (fun _ _ => rfl)) pe_int (fun _ _ => rfl)) (pe_ix ix_tup (pv 2) pe_int (fun _ _ => rfl))) pa_nil))) pa_nil))) pa_nil))))
          pss_nil))))
      (pss_one (ps_ret (pe_lc (own := [("_law_x", 3)]) (g := gName 3) rfl nd (pi_list (pv 1)) (blkOk_by (N := ["_law_rows", "_law_found", "_law_row", "_law_x"]) (sc := defScope s_law_breaks) (by decide +kernel)) (fun _ _ _ _ _ => pg_name (i := 3) nd rfl (Or.inl rfl)) (fun _ _ _ _ _ => (pts_one (pt_not (pt_val (pe_fn F_law_more (hr.mono (by decide)) (pa_cons (pv 3) (pa_cons (pe_tup (pa_cons pe_int (pa_cons pe_int pa_nil))) pa_nil))))))) (fun _ _ _ _ _ => (pv 3))))))), ?_⟩
    show (_ : TS) _ [some _, none, none, none] _
    try dsimp only [cxOf, Cx.nox]
    walk_at "go"
    rename_i p1 hp1 p2 hp2 c hc
    have e0 : Ext [] H (upd (upd (upd H p1 (.tup [.int 0, .int 1])) p2 (.tup [.int 1000, .int 1])) c (.lst [.ref p1, .ref p2])) := by walk_at "ext"
    have t1 : Am K (upd (upd (upd H p1 (.tup [.int 0, .int 1])) p2 (.tup [.int 1000, .int 1])) c (.lst [.ref p1, .ref p2])) (.ref p1) 0 := ⟨p1, rfl, by walk_at "sq"⟩
    have t2 : Am K (upd (upd (upd H p1 (.tup [.int 0, .int 1])) p2 (.tup [.int 1000, .int 1])) c (.lst [.ref p1, .ref p2])) (.ref p2) 1000 := ⟨p2, rfl, by walk_at "sq"⟩
    have hcl : upd (upd (upd H p1 (.tup [.int 0, .int 1])) p2 (.tup [.int 1000, .int 1])) c (.lst [.ref p1, .ref p2]) c = some (.lst [.ref p1, .ref p2]) := upd_same
    have hc0 : H c = none := (((Ext.refl.new hp1).new hp2 : Ext [] H _)).free hc
    generalize upd (upd (upd H p1 (.tup [.int 0, .int 1])) p2 (.tup [.int 1000, .int 1])) c (.lst [.ref p1, .ref p2]) = H0 at *
    have lr := hrows.1
    refine r_mid (fun σ' H' => ∃ (zs : List V) (u2 : Option V), σ' = [some (V.ref a), some (V.ref c), u2, none] ∧ H' c = some (.lst zs) ∧ Ams K H' zs (0 :: 1000 :: rows.flatMap lbrk) ∧ Ext [] H H') ?_ ?_
    · refine r_forL rfl (lst0 e0 ha) (fun i σ' H' => ∃ (zs : List V) (u2 : Option V), σ' = [some (V.ref a), some (V.ref c), u2, none] ∧ H' c = some (.lst zs) ∧ Ams K H' zs (0 :: 1000 :: (rows.take i).flatMap lbrk) ∧ Ext [] H H')
        ⟨_, none, rfl, hcl, Ams.cons t1 (Ams.cons t2 Ams.nil), e0⟩ ?_ ?_ ?_
      · rintro i σ' H' hi ⟨zs, u2, rfl, h1, h2, e⟩
        exact lst0 e ha
      · rintro i y σ' H1 hy ⟨zs, u2, rfl, h1, h2, e1⟩
        obtain ⟨r, hr, hrow⟩ := hrows.at_ hy
        have ro := hok r (List.mem_of_getElem? hr)
        have hil := (List.getElem?_eq_some_iff.mp hr).1
        obtain ⟨at_, mv, bv, rfl, htt, hman, hb⟩ := hrow.x0 e1
        have lz : zs.length ≤ 30 := by
          have q1 := h2.1
          have q2 := lflat_len (rows.take i)
          rw [List.length_cons, List.length_cons] at q1
          rw [List.length_take] at q2
          omega
        have fl := lflat_take hr
        walk_at "go"
        refine ⟨ty_lst h1, ?_⟩
        walk_at "go"
        try refine r_app h1 (by omega) ?_
        walk_at "go"
        have h3 : upd H1 c (.lst (zs ++ [bv])) c = some (.lst (zs ++ [bv])) := upd_same
        have am3 := (h2.w (l' := zs ++ [bv]) h1).app (Ams.cons (hb.w (l' := zs ++ [bv]) h1) Ams.nil)
        have htt3 := tupW (l' := zs ++ [bv]) htt h1
        have hm3 : ManIs K (upd H1 c (.lst (zs ++ [bv]))) mv r.man := hman.x extW (lstS1 h1)
        have ex3 := e1.own (o := .lst (zs ++ [bv])) hc0
        generalize upd H1 c (HO.lst (zs ++ [bv])) = H3 at *
        walk_at "go"
        refine ne_man (hm3.x0 (Ext.refl.new (by assumption))) tupS ?_
        walk_at "go"
        obtain ⟨man, wt, bd⟩ := r
        cases man with
        | none =>
          walk_at "run"
          refine ⟨zs ++ [bv], _, rfl, by rw [upd_ne (ne_of_none h3 (by assumption))]; exact h3, ?_, ex3.new (by assumption)⟩
          rw [fl]
          show Ams K _ (zs ++ [bv]) (0 :: 1000 :: (rows.take i).flatMap lbrk ++ [bd])
          exact am3.x0 (Ext.refl.new (by assumption))
        | some p =>
          obtain ⟨l, u⟩ := p
          obtain ⟨al, au⟩ := ro.m l u rfl
          have w0 : 0 < wt := ro.w0
          have w12 : wt ≤ 12 := ro.w12
          have sl := (al.up (Nat.dvd_trans (Nat.dvd_mul_right _ _) de)).sz E0 E9 M9
          have su := (au.up (Nat.dvd_trans (Nat.dvd_mul_right _ _) de)).sz E0 E9 M9
          obtain ⟨am, v1, v2, rfl, hm2, ⟨b1, rfl, a1⟩, ⟨b2, rfl, a2⟩⟩ := hm3
          have wz : (wt : Int).natAbs < 2 ^ 10 := Nat.lt_of_le_of_lt (by omega : (wt : Int).natAbs ≤ 12) (by decide)
          have mw1 : CMulW (l.den : Int) (wt : Int) := cmul (m := 161) (n := 10) sl.2 wz (by decide) (by decide) (by decide)
          have mw2 : CMulW (u.den : Int) (wt : Int) := cmul (m := 161) (n := 10) su.2 wz (by decide) (by decide) (by decide)
          have pw : ∀ q : Rat, Sz 161 q → 0 ≤ q → q.num.toNat < 2 ^ 8900 ∧ q.den * wt < 2 ^ 8900 := fun q hq h0 => by
            constructor
            · have h1 := hq.1
              have h2 := num_nn h0
              have h3 : (2 : Nat) ^ 161 ≤ 2 ^ 8900 := Nat.pow_le_pow_right (by decide) (by decide)
              generalize (2 : Nat) ^ 8900 = B at *
              omega
            · have h3 : q.den * wt < 2 ^ 161 * 2 ^ 10 := Nat.mul_lt_mul'' hq.2 (Nat.lt_of_le_of_lt w12 (by decide))
              rw [← Nat.pow_add] at h3
              exact Nat.lt_of_lt_of_le h3 (Nat.pow_le_pow_right (by decide) (by decide))
          walk_at "run"
          have h3' : upd H3 _ (.tup []) c = some (.lst (zs ++ [bv])) := (Ext.refl (S := [])).new (by assumption) _ _ h3 fun z => nomatch z
          refine ⟨ty_lst h3', ?_⟩
          walk_at "go"
          refine ⟨l.num.toNat, l.den * wt, by rw [Int.toNat_of_nonneg (num_nn al.nn)]; push_cast; rfl, Nat.mul_pos l.den_pos w0, (pw l sl al.nn).1, (pw l sl al.nn).2, fun v3 H4 n4 a4 => ?_⟩
          rw [pair_div al.nn w0] at a4
          walk_at "go"
          refine ⟨u.num.toNat, u.den * wt, by rw [Int.toNat_of_nonneg (num_nn au.nn)]; push_cast; rfl, Nat.mul_pos u.den_pos w0, (pw u su au.nn).1, (pw u su au.nn).2, fun v4 H5 n5 a5 => ?_⟩
          rw [pair_div au.nn w0] at a5
          walk_at "go"
          rename_i q hq
          have e5 := (((Ext.refl (S := []) (H := H3)).new (o := .tup []) (by assumption)).trans n4).trans n5
          have h5 : H5 c = some (.lst (zs ++ [bv])) := e5 _ _ h3 fun z => nomatch z
          have h6 : upd H5 q (.lst [v3, v4]) c = some (.lst (zs ++ [bv])) := by rw [upd_ne (ne_of_none h5 hq)]; exact h5
          have e6 := e5.new (o := .lst [v3, v4]) hq
          refine ⟨c, q, zs ++ [bv], [v3, v4], rfl, rfl, h6, upd_same, ?_, ?_⟩
          · exact Nat.le_trans (by rw [List.length_append]; exact Nat.add_le_add_right (Nat.add_le_add_right lz 1) 2 : (zs ++ [bv]).length + 2 ≤ 33) (by decide)
          walk_at "go"
          have am6 := ((am3.x0 e6).app (Ams.cons ((a4.x0 n5).n hq) (Ams.cons (a5.n hq) Ams.nil))).w (l' := zs ++ [bv] ++ [v3, v4]) h6
          refine ⟨zs ++ [bv] ++ [v3, v4], _, rfl, upd_same, ?_, (ex3.trans e6).own hc0⟩
          rw [fl]
          have eq : (0 : Rat) :: 1000 :: ((rows.take i).flatMap lbrk ++ lbrk ⟨some (l, u), wt, bd⟩) = 0 :: 1000 :: (rows.take i).flatMap lbrk ++ [bd] ++ [l / (wt : Rat), u / (wt : Rat)] := by
            simp [lbrk, lbrk.pbrk']
          rw [eq]
          exact am6
      · rintro σ' H' ⟨zs, u2, rfl, h1, h2, e⟩
        rw [lr, List.take_length] at h2
        exact ⟨zs, u2, rfl, h1, h2, e⟩
    · rintro σ' H1 ⟨zs, u2, rfl, h1, h2, e1⟩
      walk_at "go"
      refine ⟨c, rfl, ⟨_, .inl (.inl h1)⟩, fun d hd => ?_⟩
      have ndc : d ≠ c := fun z => by rw [z, h1] at hd; cases hd
      have B := brk_ok hok nr de M1
      have hin : ∀ p ∈ (0 : Rat) :: 1000 :: rows.flatMap lbrk, In E M p := fun p hp => by
        rcases List.mem_cons.mp hp with rfl | hp
        · exact In.zero
        · rcases List.mem_cons.mp hp with rfl | hp
          · exact In.nat (n := 1000) M1
          · obtain ⟨r, hr, hp⟩ := List.mem_flatMap.mp hp
            exact (in_brk (hok r hr) p (lbrk_brk hp)).up de
      have lz : zs.length ≤ 30 := by
        have q1 := h2.1
        have q2 := lflat_len rows
        rw [List.length_cons, List.length_cons] at q1
        omega
      refine r_lcL (xs := zs) (fun i H2 => ∃ acc : List V, H2 d = some (.lst acc) ∧ acc.length ≤ i ∧ Ams K H2 acc (((0 :: 1000 :: rows.flatMap lbrk).take i).filter fun q => decide (q ≤ 1000)) ∧ Ext [] H1 H2)
        ⟨[], upd_same, Nat.le_refl _, Ams.nil, Ext.refl.new hd⟩ ?_ ?_ ?_
      · rintro i H2 hi ⟨acc, q1, q2, q3, q4⟩
        exact .inl (.inl (q4 _ _ h1 fun z => nomatch z))
      · rintro i y H2 hy ⟨acc, q1, q2, q3, q4⟩
        have hil := (List.getElem?_eq_some_iff.mp hy).1
        obtain ⟨q, hq, aq⟩ := h2.at_ hy
        have iq := hin q (List.mem_of_getElem? hq)
        walk_at "go"
        refine ⟨rfl, ?_⟩
        walk_at "go"
        refine ⟨y, _, q, 1000, rfl, aq.x0 (q4.new (by assumption)), ⟨_, rfl, tupS⟩, (iq.sz E0 E9 M9).mono (by decide), ⟨by decide, by decide⟩, ?_⟩
        walk_at "go"
        have tg := take_get hq
        have q1' := (Ext.refl (S := [])).new (o := .tup [.int 1000, .int 1]) (by assumption) _ _ q1 fun z => nomatch z
        have q3' := q3.x0 ((Ext.refl (S := [])).new (o := .tup [.int 1000, .int 1]) (by assumption))
        have aq' := (aq.x0 q4).x0 ((Ext.refl (S := [])).new (o := .tup [.int 1000, .int 1]) (by assumption))
        have q4' := q4.new (o := .tup [.int 1000, .int 1]) (by assumption)
        refine r_ndec (fun hle => ?_) (fun hgt => ?_)
        · have hle : q ≤ 1000 := Rat.not_lt.mp hle
          walk_at "go"
          refine ⟨acc, q1', Nat.lt_of_le_of_lt (by omega : acc.length ≤ 4000) (by decide), acc ++ [y], upd_same, by rw [List.length_append]; exact Nat.add_le_add_right q2 1, ?_, q4'.own hd⟩
          rw [tg, List.filter_append, show [q].filter (fun q => decide (q ≤ 1000)) = [q] by simp [hle]]
          exact (q3'.w q1').app (Ams.cons (aq'.w q1') Ams.nil)
        · refine ⟨acc, q1', by omega, ?_, q4'⟩
          rw [tg, List.filter_append, show [q].filter (fun q => decide (q ≤ 1000)) = [] by simpa using Rat.not_le.mpr hgt, List.append_nil]
          exact q3'
      · rintro H2 ⟨acc, q1, q2, q3, q4⟩
        walk_at "go"
        rw [h2.1, List.take_length] at q3
        exact k d acc _ H2 (e1.free hd) q1 q3 B (e1.trans q4)
theorem lin_brk {D E M : Nat} {rows : List Row} {rs : List Rat} {l u : Rat} (hok : ∀ r ∈ rows, RowOk D M r) (B : BrkOk D E M rows rs) (lu : l ≤ u) (hu : u ≤ 1000) (h : ∀ p ∈ rs, p ≤ l ∨ u ≤ p) : Lin (tot rows) l u :=
  lin_tot rows (fun r hr => (hok r hr).w0) lu fun r hr hm p hp => by
    by_cases h1 : p ≤ 1000
    · exact h p (B.all r hr hm p hp h1)
    · exact .inr (by grind)
def spLLevel (K : PySem.W.Frag) : Sp := fun vs H Q _ => ∃ (g : V) (a : Addr) (xs : List V) (rows : List Row) (D E M B : Nat) (goal : Rat), vs = [g, .ref a] ∧ SqL K H a xs ∧ RowsIs K H xs rows ∧ Am K H g goal ∧ LevOk D E M B rows goal 1000 ∧ RetLev K H Q E M rows goal 1000
theorem m1000 {E M : Nat} (h : In E M 1000) : 1000 ≤ M := by have := h.le; exact_mod_cast this
end
end Yk

set_option maxHeartbeats 4000000
namespace Yk
open PySem PySem.Spec PyProof.Rows L2

section
variable {P : Program} {w : World} {K : PySem.W.Frag} {mg : Str → Option Value} {base : Heap} {f : Addr} {fd : FuncData}
theorem k_bit {H : Hp} {b : Bag} {Q : VK} {E : XK} (hb : BagAt K H b) (k : ∀ v q H', Am K H' v q → In 12 12 q → BagAt K H' b → Ext [b.a] H H' → Q v H') : spBit K [.ref b.a] H Q E :=
  ⟨b, rfl, hb, fun v n d H' hn d0 hd a b' e => k v _ H' a (In.frac d0 hd (by omega)) b' e⟩
theorem of_int {H : Hp} {b : Bag} {l : Addr} {ns : List Int} {Q : VK} {E : XK} (hb : BagAt K H b) (hl : SqL K H l (ns.map V.int)) (hne : b.a ≠ l) (h0 : 0 < ns.length) (h4 : ns.length ≤ 4000) (k : ∀ x H', x ∈ ns → BagAt K H' b → Ext [b.a] H H' → Q (.int x) H') : spOf K [.ref b.a, .ref l] H Q E :=
  ⟨b, l, _, rfl, hb, hl, hne, by rw [List.length_map]; exact h0, by rw [List.length_map]; exact h4, fun i x H' hx hb' e => by
    rw [List.getElem?_map] at hx
    cases e2 : ns[i]? with
    | none => rw [e2] at hx; cases hx
    | some z => rw [e2] at hx; cases hx; exact k z H' (List.mem_of_getElem? e2) hb' e⟩
theorem p9 : (10 : Int) ^ Int.toNat 9 = 1000000000 := by decide
def spGrid (K : PySem.W.Frag) : Sp := fun vs H Q _ => ∃ b, vs = [.ref b.a] ∧ BagAt K H b ∧ ∀ (g : Nat) H', 0 < g → g ≤ 2 ^ 60 → BagAt K H' b → Ext [b.a] H H' → Q (.int (g : Int)) H'
abbrev s_law_grid : Stmt := top 38
theorem c_law_grid : FnScope ["_law_bag_here"] ["_law_bag_here"] (defScope s_law_grid) := ⟨rfl, rfl, rfl, by decide +kernel, rfl, by decide +kernel, by decide +kernel⟩
theorem f_law_grid (F : FunD K "_law_grid" "_law_grid" (defArgs s_law_grid) (defBody s_law_grid) (defScope s_law_grid) [] [] f fd) (hm : mg "_law_grid" = some (.ref f)) (F_law_draw : Fn P w K mg base 1 "_law_draw" (spDraw K)) (F_law_of : Fn P w K mg base 2 "_law_of" (spOf K)) : Fn P w K mg base 3 "_law_grid" (spGrid K) := by
  refine fn_def F hm c_law_grid (fun vs H Q E h => ?_) (fun _ _ _ _ _ _ us hl => match us, hl with | [_], _ => rfl) (fun cdv A outer s H vs Q E hr h => ?_)
  · obtain ⟨b, rfl, _⟩ := h
    rfl
  · obtain ⟨b, rfl, hb, k⟩ := h
    have nd := c_law_grid.nd
    refine ⟨_, (pss_one (ps_ret (pe_fn F_law_of (hr.mono (by decide)) (pa_cons (pv 0) (pa_cons (pe_lst (pa_cons pe_int (pa_cons pe_int (pa_cons pe_int (pa_cons pe_int (pa_cons pe_int (pa_cons (pe_op op_add pe_int (pe_fn F_law_draw (hr.mono (by decide)) (pa_cons (pv 0) (pa_cons (pe_op op_pow pe_int pe_int) pa_nil)))) (pa_cons (pe_op op_add pe_int (pe_op op_mulW (pe_fn F_law_draw (hr.mono (by decide)) (pa_cons (pv 0) (pa_cons (pe_op op_pow pe_int pe_int) pa_nil))) (pe_fn F_law_draw (hr.mono (by decide)) (pa_cons (pv 0) (pa_cons (pe_op op_pow pe_int pe_int) pa_nil))))) pa_nil)))))))) pa_nil))))), ?_⟩
    show (_ : TS) _ [some _] _
    try dsimp only [cxOf, Cx.nox]
    walk_at "go"
    rw [p9]
    refine k_draw hb (by decide) (by decide) fun x1 H1 l1 u1 b1 n1 => ?_
    walk_at "go"
    rw [p9]
    refine k_draw b1 (by decide) (by decide) fun x2 H2 l2 u2 b2 n2 => ?_
    walk_at "go"
    rw [p9]
    refine k_draw b2 (by decide) (by decide) fun x3 H3 l3 u3 b3 n3 => ?_
    have hp : x2 * x3 ≤ 1000000000 * 1000000000 := Int.mul_le_mul (by omega) (by omega) l3 (by decide)
    have h0 : 0 ≤ x2 * x3 := Int.mul_nonneg l2 l3
    have mw : CMulW x2 x3 := cmul (m := 31) (n := 31) (Nat.lt_of_le_of_lt (by omega : x2.natAbs ≤ 1000000000) (by decide)) (Nat.lt_of_le_of_lt (by omega : x3.natAbs ≤ 1000000000) (by decide)) (by decide) (by decide) (by decide)
    walk_at "go"
    rename_i p hp'
    refine of_int (ns := [1, 1, 2, 3, 12, 1 + x1, 1 + x2 * x3]) (b3.new hp') lstS (b3.ne hp') (Nat.zero_lt_succ _) (show 7 ≤ 4000 by decide) fun x H4 hx b4 n4 => ?_
    have hb : 0 < x ∧ x ≤ 1000000000000000001 := by
      simp only [List.mem_cons, List.not_mem_nil, or_false] at hx
      rcases hx with rfl | rfl | rfl | rfl | rfl | rfl | rfl <;> omega
    have ex : x = ((x.toNat : Nat) : Int) := by omega
    rw [ex]
    exact k x.toNat H4 (by omega) (Nat.le_trans (by omega : x.toNat ≤ 1000000000000000001) (by decide)) b4 (((n1.trans n2).trans n3).trans (Ext.trans (Ext.refl.new hp') n4))
def spFine (K : PySem.W.Frag) : Sp := fun vs H Q _ => ∃ (b : Bag) (g : Nat), vs = [.ref b.a, .int (g : Int)] ∧ BagAt K H b ∧ 0 < g ∧ g ≤ 2 ^ 60 ∧ ∀ v q H', Am K H' v q → In (12 * g) 2001 q → BagAt K H' b → Ext [b.a] H H' → Q v H'
theorem five_in {D : Nat} : ∀ q ∈ ([0, 1, 1000, 1001, 999] : List Rat), In D 2001 q := by
  intro q hq
  simp only [List.mem_cons, List.not_mem_nil, or_false] at hq
  rcases hq with rfl | rfl | rfl | rfl | rfl
  · exact In.zero
  · exact In.nat (n := 1) (by decide)
  · exact In.nat (n := 1000) (by decide)
  · exact In.nat (n := 1001) (by decide)
  · exact In.nat (n := 999) (by decide)
abbrev s_law_fine : Stmt := top 39
theorem c_law_fine : FnScope ["_law_bag_here", "_law_grid_here", "_law_shape"] ["_law_bag_here", "_law_grid_here"] (defScope s_law_fine) := ⟨rfl, rfl, rfl, by decide +kernel, rfl, by decide +kernel, by decide +kernel⟩
theorem f_law_fine (F : FunD K "_law_fine" "_law_fine" (defArgs s_law_fine) (defBody s_law_fine) (defScope s_law_fine) [] [] f fd) (hm : mg "_law_fine" = some (.ref f)) (F_law_draw : Fn P w K mg base 1 "_law_draw" (spDraw K)) (F_law_of : Fn P w K mg base 2 "_law_of" (spOf K)) (F_law_pair : Fn P w K mg base 1 "_law_pair" (spPair K)) (F_law_bit : Fn P w K mg base 3 "_law_bit" (spBit K)) : Fn P w K mg base 4 "_law_fine" (spFine K) := by
  refine fn_def F hm c_law_fine (fun vs H Q E h => ?_) (fun _ _ _ _ _ _ us hl => match us, hl with | [_, _], _ => rfl) (fun cdv A outer s H vs Q E hr h => ?_)
  · obtain ⟨b, g, rfl, _⟩ := h
    rfl
  · obtain ⟨b, g, rfl, hb, g0, g9, k⟩ := h
    have nd := c_law_fine.nd
    refine ⟨_, (pss_cons (ps_set (i := 2) nd rfl (by first | exact Or.inl rfl | exact Or.inr rfl) (pe_fn F_law_draw (hr.mono (by decide)) (pa_cons (pv 0) (pa_cons pe_int pa_nil))))
      (pss_cons (ps_if (pt_cmpR op_eq (pv 2) pe_int (nomark _))
        (pss_one (ps_ret (pe_fn F_law_of (hr.mono (by decide)) (pa_cons (pv 0) (pa_cons (pe_lst (pa_cons (pe_tup (pa_cons pe_int (pa_cons pe_int pa_nil))) (pa_cons (pe_tup (pa_cons pe_int (pa_cons pe_int pa_nil))) (pa_cons (pe_tup (pa_cons pe_int (pa_cons pe_int pa_nil))) (pa_cons (pe_tup (pa_cons pe_int (pa_cons pe_int pa_nil))) (pa_cons (pe_tup (pa_cons pe_int (pa_cons pe_int pa_nil))) pa_nil)))))) pa_nil)))))
        pss_nil)
      (pss_cons (ps_if (pt_cmpR op_lt (pv 2) pe_int (nomark _))
        (pss_one (ps_ret (pe_fn F_law_bit (hr.mono (by decide)) (pa_cons (pv 0) pa_nil))))
        pss_nil)
      (pss_one (ps_ret (pe_fn F_law_pair (hr.mono (by decide)) (pa_cons (pe_op op_add (pe_op op_mulW (pe_fn F_law_of (hr.mono (by decide)) (pa_cons (pv 0) (pa_cons (pe_lst (pa_cons pe_int (pa_cons pe_int (pa_cons (pe_fn F_law_draw (hr.mono (by decide)) (pa_cons (pv 0) (pa_cons pe_int pa_nil))) (pa_cons (pe_fn F_law_draw (hr.mono (by decide)) (pa_cons (pv 0) (pa_cons pe_int pa_nil))) pa_nil))))) pa_nil))) (pv 1)) (pe_fn F_law_draw (hr.mono (by decide)) (pa_cons (pv 0) (pa_cons (pv 1) pa_nil)))) (pa_cons (pv 1) pa_nil)))))))), ?_⟩
    show (_ : TS) _ [some _, some _, none] _
    try dsimp only [cxOf, Cx.nox]
    walk_at "go"
    refine k_draw hb (by decide) (by decide) fun x1 H1 l1 u1 b1 n1 => ?_
    walk_at "go"
    refine r_dec (fun h1 => ?_) (fun h1 => ?_)
    · walk_at "go"
      refine of_am (qs := [0, 1, 1000, 1001, 999]) (by walk_at "bag") lstS (BagAt.ne' (K := K) (by assumption) (by walk_at "bag")) ?_ (by decide) (by decide) fun v q H' hq hm hb' e => ?_
      · exact Ams.cons ⟨_, rfl, by walk_at "sq"⟩ (Ams.cons ⟨_, rfl, by walk_at "sq"⟩ (Ams.cons ⟨_, rfl, by walk_at "sq"⟩ (Ams.cons ⟨_, rfl, by walk_at "sq"⟩ (Ams.cons ⟨_, rfl, by walk_at "sq"⟩ Ams.nil))))
      · exact k v q H' hm (five_in q hq) hb' (Ext.trans (by walk_at "ext") e)
    · walk_at "go"
      refine r_dec (fun h2 => ?_) (fun h2 => ?_)
      · walk_at "go"
        refine k_bit b1 fun v q H' a iq b' e => ?_
        walk_at "go"
        exact k v q H' a ((iq.up (Nat.dvd_mul_right _ _)).most (by decide)) b' (n1.trans e)
      · walk_at "go"
        refine k_draw b1 (by decide) (by decide) fun x2 H2 l2 u2 b2 n2 => ?_
        walk_at "go"
        refine k_draw b2 (by decide) (by decide) fun x3 H3 l3 u3 b3 n3 => ?_
        walk_at "go"
        rename_i p hp'
        refine of_int (ns := [0, 3, x2, x3]) (b3.new hp') lstS (b3.ne hp') (Nat.zero_lt_succ _) (show 4 ≤ 4000 by decide) fun x H4 hx b4 n4 => ?_
        have hxb : 0 ≤ x ∧ x ≤ 2000 := by
          simp only [List.mem_cons, List.not_mem_nil, or_false] at hx
          rcases hx with rfl | rfl | rfl | rfl <;> omega
        have gz : (g : Int).natAbs < 2 ^ 61 := Nat.lt_of_le_of_lt (show (g : Int).natAbs ≤ 2 ^ 60 from g9) (by decide)
        have mw : CMulW x (g : Int) := cmul (m := 20) (n := 61) (Nat.lt_of_le_of_lt (by omega : x.natAbs ≤ 2000) (by decide)) gz (by decide) (by decide) (by decide)
        walk_at "go"
        have gI : (g : Int) ≤ 2 ^ 60 := by exact_mod_cast g9
        refine k_draw b4 (by omega) (Int.lt_of_le_of_lt gI (by decide)) fun x4 H5 l4 u4 b5 n5 => ?_
        walk_at "go"
        have ex : x = ((x.toNat : Nat) : Int) := by omega
        have ey : x4 = ((x4.toNat : Nat) : Int) := by omega
        have eq : x * (g : Int) + x4 = ((x.toNat * g + x4.toNat : Nat) : Int) := by push_cast; rw [← ex, ← ey]
        have hm : x.toNat * g ≤ 2000 * g := Nat.mul_le_mul_right g (by omega)
        have hs : x.toNat * g + x4.toNat ≤ 2001 * g := by omega
        have hs2 : 2001 * g < 2 ^ 8900 := Nat.lt_of_le_of_lt (Nat.mul_le_mul_left 2001 g9) (Nat.lt_of_lt_of_le (by decide : 2001 * 2 ^ 60 < 2 ^ 100) (Nat.pow_le_pow_right (by decide) (by decide)))
        have hs3 : g < 2 ^ 8900 := Nat.lt_of_le_of_lt g9 (Nat.pow_lt_pow_right (by decide) (by decide))
        refine ⟨x.toNat * g + x4.toNat, g, by rw [eq], g0, Nat.lt_of_le_of_lt hs hs2, hs3, fun v H' e a => ?_⟩
        walk_at "go"
        exact k v _ H' a (In.frac g0 (Nat.dvd_mul_left _ _) hs) (b5.x0 e) ((((n1.trans n2).trans n3).trans (Ext.trans (Ext.refl.new hp') n4)).trans (n5.trans e.of0))
def ManOk (D M : Nat) (man : Option (Rat × Rat)) : Prop := ∀ l u, man = some (l, u) → In D M l ∧ In D M u ∧ l ≤ u
def spWish (K : PySem.W.Frag) : Sp := fun vs H Q _ => ∃ (b : Bag) (g : Nat), vs = [.ref b.a, .int (g : Int)] ∧ BagAt K H b ∧ 0 < g ∧ g ≤ 2 ^ 60 ∧ ∀ v man H', ManIs K H' v man → ManOk (12 * g) 4096 man → BagAt K H' b → Ext [b.a] H H' → Q v H'
theorem man2 {D M : Nat} {l u : Rat} (h1 : In D M l) (h2 : In D M u) (h3 : l ≤ u) : ManOk D M (some (l, u)) := fun l' u' e => by cases e; exact ⟨h1, h2, h3⟩
abbrev s_law_wish : Stmt := top 40
theorem c_law_wish : FnScope ["_law_bag_here", "_law_grid_here", "_law_shape", "_law_a"] ["_law_bag_here", "_law_grid_here"] (defScope s_law_wish) := ⟨rfl, rfl, rfl, by decide +kernel, rfl, by decide +kernel, by decide +kernel⟩
theorem f_law_wish (F : FunD K "_law_wish" "_law_wish" (defArgs s_law_wish) (defBody s_law_wish) (defScope s_law_wish) [] [] f fd) (hm : mg "_law_wish" = some (.ref f)) (F_law_draw : Fn P w K mg base 1 "_law_draw" (spDraw K)) (F_law_of : Fn P w K mg base 2 "_law_of" (spOf K)) (F_law_bit : Fn P w K mg base 3 "_law_bit" (spBit K)) (F_law_fine : Fn P w K mg base 4 "_law_fine" (spFine K)) (F_law_more : Fn P w K mg base 1 "_law_more" (spMore K)) (F_law_add : Fn P w K mg base 2 "_law_add" (sp2 (fun _ _ => True) (· + ·) K)) : Fn P w K mg base 5 "_law_wish" (spWish K) := by
  refine fn_def F hm c_law_wish (fun vs H Q E h => ?_) (fun _ _ _ _ _ _ us hl => match us, hl with | [_, _], _ => rfl) (fun cdv A outer s H vs Q E hr h => ?_)
  · obtain ⟨b, g, rfl, _⟩ := h
    rfl
  · obtain ⟨b, g, rfl, hb, g0, g9, k⟩ := h
    have nd := c_law_wish.nd
    refine ⟨_, (pss_cons (ps_set (i := 2) nd rfl (by first | exact Or.inl rfl | exact Or.inr rfl) (pe_fn F_law_draw (hr.mono (by decide)) (pa_cons (pv 0) (pa_cons pe_int pa_nil))))
      (pss_cons (ps_if (pt_cmpR op_eq (pv 2) pe_int (nomark _))
        (pss_one (ps_ret (pe_tup pa_nil)))
        pss_nil)
      (pss_cons (ps_set (i := 3) nd rfl (by first | exact Or.inl rfl | exact Or.inr rfl) (pe_fn F_law_of (hr.mono (by decide)) (pa_cons (pv 0) (pa_cons (pe_lst (pa_cons (pe_tup (pa_cons pe_int (pa_cons pe_int pa_nil))) (pa_cons (pe_fn F_law_bit (hr.mono (by decide)) (pa_cons (pv 0) pa_nil)) (pa_cons (pe_fn F_law_fine (hr.mono (by decide)) (pa_cons (pv 0) (pa_cons (pv 1) pa_nil))) pa_nil)))) pa_nil))))
      (pss_cons (ps_if (pt_cmpR op_lt (pv 2) pe_int (nomark _))
        (pss_one (ps_ret (pe_tup (pa_cons (pv 3) (pa_cons (pv 3) pa_nil)))))
        pss_nil)
      (pss_cons (ps_if (pt_cmpR op_lt (pv 2) pe_int (nomark _))
        (pss_one (ps_ret (pe_ifExp (pt_not (pt_val (pe_fn F_law_more (hr.mono (by decide)) (pa_cons (pv 3) (pa_cons (pe_tup (pa_cons pe_int (pa_cons pe_int pa_nil))) pa_nil))))) (pe_tup (pa_cons (pv 3) (pa_cons (pe_tup (pa_cons pe_int (pa_cons pe_int pa_nil))) pa_nil))) (pe_tup (pa_cons (pv 3) (pa_cons (pv 3) pa_nil))))))
        pss_nil)
      (pss_cons (ps_if (pt_cmpR op_eq (pv 2) pe_int (nomark _))
        (pss_one (ps_ret (pe_tup (pa_cons (pv 3) (pa_cons (pe_fn F_law_add (hr.mono (by decide)) (pa_cons (pv 3) (pa_cons (pe_fn F_law_fine (hr.mono (by decide)) (pa_cons (pv 0) (pa_cons (pv 1) pa_nil))) pa_nil))) pa_nil)))))
        pss_nil)
      (pss_one (ps_ret (pe_tup (pa_cons (pv 3) (pa_cons (pe_fn F_law_add (hr.mono (by decide)) (pa_cons (pv 3) (pa_cons (pe_fn F_law_bit (hr.mono (by decide)) (pa_cons (pv 0) pa_nil)) pa_nil))) pa_nil))))))))))), ?_⟩
    show (_ : TS) _ [some _, some _, none, none] _
    try dsimp only [cxOf, Cx.nox]
    have D0 : 0 < 12 * g := by omega
    have D9 : 12 * g ≤ 2 ^ 64 := Nat.le_trans (Nat.mul_le_mul_left 12 g9) (by decide)
    have zz : ∀ {q : Rat}, In (12 * g) 2001 q → Sz 4000 q := fun h => (h.sz (k := 20) D0 D9 (by decide)).mono (by decide)
    walk_at "go"
    refine k_draw hb (by decide) (by decide) fun x1 H1 l1 u1 b1 n1 => ?_
    walk_at "go"
    refine r_dec (fun h1 => ?_) (fun h1 => ?_)
    · walk_at "go"
      exact k _ none _ ⟨_, rfl, tupS⟩ (fun l u e => by cases e) (b1.new (by assumption)) (n1.new (by assumption))
    · walk_at "go"
      refine k_bit (b1.new (by assumption)) fun v2 q2 H2 a2 i2 b2 n2 => ?_
      walk_at "go"
      refine ⟨b, g, rfl, b2, g0, g9, fun v3 q3 H3 a3 i3 b3 n3 => ?_⟩
      walk_at "go"
      rename_i p hp p' hp'
      have i2' : In (12 * g) 2001 q2 := (i2.up (Nat.dvd_mul_right _ _)).most (by decide)
      have t0 : Am K H3 (.ref p) 0 := Am.b (b1.new hp) (n2.trans n3) ⟨p, rfl, tupS⟩
      refine of_am (qs := [0, q2, q3]) (by walk_at "bag") lstS (BagAt.ne' (K := K) (by assumption) (by walk_at "bag")) ?_ (Nat.zero_lt_succ _) (show 3 ≤ 4000 by decide) fun v q H4 hq hm b4 n4 => ?_
      · exact Ams.cons (t0.n hp') (Ams.cons ((a2.b b2 n3).n hp') (Ams.cons (a3.n hp') Ams.nil))
      have iq : In (12 * g) 2001 q := by
        simp only [List.mem_cons, List.not_mem_nil, or_false] at hq
        rcases hq with rfl | rfl | rfl
        · exact In.zero
        · exact i2'
        · exact i3
      have e4 : Ext [b.a] H H4 := (n1.trans ((Ext.refl.new hp).trans (n2.trans n3))).trans ((Ext.refl.new hp').trans n4)
      have iq4 := iq.most (M' := 4096) (by decide)
      walk_at "go"
      refine r_dec (fun h2 => ?_) (fun h2 => ?_)
      · walk_at "go"
        exact k _ (some (q, q)) _ ⟨_, v, v, rfl, tupS, hm.n (by assumption), hm.n (by assumption)⟩ (man2 iq4 iq4 Rat.le_refl) (b4.new (by assumption)) (e4.new (by assumption))
      · walk_at "go"
        refine r_dec (fun h3 => ?_) (fun h3 => ?_)
        · walk_at "go"
          refine ⟨v, _, q, 1000, rfl, hm.n (by assumption), ⟨_, rfl, tupS⟩, zz iq, ⟨by decide, by decide⟩, ?_⟩
          walk_at "go"
          refine r_ndec (fun h5 => ?_) (fun h5 => ?_)
          · walk_at "go"
            refine k _ (some (q, 1000)) _ ⟨_, v, _, rfl, tupS, by walk_at "am", ⟨_, rfl, by walk_at "sq"⟩⟩ (man2 iq4 (In.nat (n := 1000) (by decide)) (Rat.not_lt.mp h5)) (by walk_at "bag") (e4.trans (by walk_at "ext"))
          · walk_at "go"
            refine k _ (some (q, q)) _ ⟨_, v, v, rfl, tupS, by walk_at "am", by walk_at "am"⟩ (man2 iq4 iq4 Rat.le_refl) (by walk_at "bag") (e4.trans (by walk_at "ext"))
        · walk_at "go"
          have hadd : ∀ (v5 : V) (q5 : Rat) (H5 : Hp) (R : VK), Am K H5 v5 q5 → In (12 * g) 2001 q5 → BagAt K H5 b → Ext [b.a] H4 H5 → (∀ v6 H6, Ext [] H5 H6 → Am K H6 v6 (q + q5) → R v6 H6) → sp2 (fun _ _ => True) (· + ·) K [v, v5] H5 R E0 := fun v5 q5 H5 R a5 i5 b5 n5 kk => k_two (hm.b b4 n5) a5 (zz iq) (zz i5) iq.nn i5.nn trivial kk
          have fin : ∀ (v6 : V) (q5 : Rat) (H6 : Hp) (p : Addr), H6 p = none → Am K H6 v6 (q + q5) → Am K H6 v q → In (12 * g) 2001 q5 → BagAt K H6 b → Ext [b.a] H4 H6 → Q (.ref p) (upd H6 p (.tup [v, v6])) := fun v6 q5 H6 p hp6 a6 av i5 b6 n6 =>
            k _ (some (q, q + q5)) _ ⟨p, v, v6, rfl, tupS, av.n hp6, a6.n hp6⟩ (man2 iq4 ((iq.add i5).most (by decide)) (by have := i5.nn; grind)) (b6.new hp6) ((e4.trans n6).new hp6)
          refine r_dec (fun h5 => ?_) (fun h5 => ?_)
          · walk_at "go"
            refine ⟨b, g, rfl, b4, g0, g9, fun v5 q5 H5 a5 i5 b5 n5 => ?_⟩
            walk_at "go"
            refine hadd v5 q5 H5 _ a5 i5 b5 n5 fun v6 H6 n6 a6 => ?_
            walk_at "go"
            exact fin v6 q5 H6 _ (by assumption) a6 ((hm.b b4 n5).x0 n6) i5 (b5.x0 n6) (n5.trans n6.of0)
          · walk_at "go"
            refine k_bit b4 fun v5 q5 H5 a5 i5 b5 n5 => ?_
            walk_at "go"
            have i5' : In (12 * g) 2001 q5 := (i5.up (Nat.dvd_mul_right _ _)).most (by decide)
            refine hadd v5 q5 H5 _ a5 i5' b5 n5 fun v6 H6 n6 a6 => ?_
            walk_at "go"
            exact fin v6 q5 H6 _ (by assumption) a6 ((hm.b b4 n5).x0 n6) i5' (b5.x0 n6) (n5.trans n6.of0)
end
end Yk

set_option maxHeartbeats 4000000
namespace Yk
open PySem PySem.Spec PyProof.Rows L2

structure RowG (D : Nat) (r : Row) : Prop where
  ok : RowOk D 4096 r
  lu : ∀ l u, r.man = some (l, u) → l ≤ u
section
variable {K : PySem.W.Frag} {H H1 : Hp} {Q : VK}
/-! rows as data -/
theorem dp_man {v : V} {man : Option (Rat × Rat)} (h : ManIs K H v man) : ∃ d, Dp K H v d ∧ d.canLay0 = true ∧ d.depth ≤ 2 := by
  cases man with
  | none => obtain ⟨a, rfl, h⟩ := h; exact ⟨.tuple [], .tup h .nil, rfl, by decide⟩
  | some q => obtain ⟨a, v1, v2, rfl, h, a1, a2⟩ := h; exact ⟨_, .tup h (.cons (dp_am a1) (.cons (dp_am a2) .nil)), rfl, by simp [PyData.depth, PyData.depthAll]⟩
theorem dp_row {v : V} {r : Row} (h : RowIs K H v r) : ∃ d, Dp K H v d ∧ d.canLay0 = true ∧ d.depth ≤ 3 := by
  obtain ⟨a, mv, bv, rfl, h, h1, h2⟩ := h
  obtain ⟨d, e1, e2, e3⟩ := dp_man h1
  refine ⟨_, .tup h (.cons e1 (.cons (.int _) (.cons (dp_am h2) .nil))), ?_, ?_⟩
  · simp [PyData.canLay0, PyData.canLayAll0, e2]
  · simp [PyData.depth, PyData.depthAll]
    omega
theorem dp_rows : ∀ {xs : List V} {rows : List Row}, RowsIs K H xs rows → ∃ ds, DpAll K H xs ds ∧ PyData.canLayAll0 ds = true ∧ PyData.depthAll ds ≤ 3 ∧ ds.length = rows.length
  | [], [], _ => ⟨[], .nil, rfl, by simp [PyData.depthAll], rfl⟩
  | v :: xs, rows, h => by
    obtain ⟨r, t, rfl, h1, h2⟩ := Rel.cases h
    obtain ⟨d, a1, a2, a3⟩ := dp_row h1
    obtain ⟨ds, b1, b2, b3, b4⟩ := dp_rows h2
    refine ⟨d :: ds, .cons a1 b1, by simp [PyData.canLayAll0, a2, b2], by simp [PyData.depthAll]; omega, by simp [b4]⟩
  | [], _ :: _, h => absurd h.1 (by simp)
theorem ne_rows {c p : Addr} {xs : List V} {rows : List Row} (h : RowsIs K H xs rows) (hc : SqL K H c xs) (hp : SqL K H p []) (k : Q (.bl (!rows.isEmpty)) H) : rNeD K (.ref c) (.ref p) H Q := by
  obtain ⟨ds, b1, b2, b3, b4⟩ := dp_rows h
  refine ⟨.list ds, .list [], .lst hc b1, .lst hp .nil, ?_, rfl, ?_⟩
  · simp [SeqAt.shaped, PyData.canLay0, b2, PyData.depth]
    omega
  · have e : PyData.eqv (.list ds) (.list []) = rows.isEmpty := by
      cases ds with
      | nil => cases rows with
        | nil => rfl
        | cons r t => simp at b4
      | cons d ds => cases rows with
        | nil => simp at b4
        | cons r t => rfl
    rw [e]
    exact k
end
/-- rows while they are made -/
structure WS (K : PySem.W.Frag) (H H' : Hp) (b : Bag) (c : Addr) (g : Nat) (xs : List V) (rows : List Row) (lv : V) (lq : Rat) : Prop where
  at_ : H' c = some (.lst xs)
  rel : RowsIs K H' xs rows
  ok : ∀ r ∈ rows, RowG (12 * g) r
  bag : BagAt K H' b
  ext : Ext [b.a] H H'
  lid : Am K H' lv lq
  nb : c ≠ b.a
section
variable {K : PySem.W.Frag} {H H1 H2 : Hp} {b : Bag} {c : Addr} {g : Nat} {xs : List V} {rows : List Row} {lv : V} {lq : Rat}
theorem WS.x0 (e : Ext [] H1 H2) (h : WS K H H1 b c g xs rows lv lq) : WS K H H2 b c g xs rows lv lq := ⟨e _ _ h.at_ (fun z => nomatch z), h.rel.x0 e, h.ok, h.bag.x0 e, h.ext.trans e.of0, h.lid.x0 e, h.nb⟩
theorem WS.bx (e : Ext [b.a] H1 H2) (hb : BagAt K H2 b) (h : WS K H H1 b c g xs rows lv lq) : WS K H H2 b c g xs rows lv lq :=
  ⟨e _ _ h.at_ (by simpa using h.nb), h.rel.x e (bagS h.bag), h.ok, hb, h.ext.trans e, h.lid.b h.bag e, h.nb⟩
end
theorem RowIs.b {K : PySem.W.Frag} {H H1 : Hp} {b : Bag} {v : V} {r : Row} (hb : BagAt K H b) (e : Ext [b.a] H H1) (h : RowIs K H v r) : RowIs K H1 v r := h.x e (bagS hb)
theorem ManIs.b {K : PySem.W.Frag} {H H1 : Hp} {b : Bag} {v : V} {m : Option (Rat × Rat)} (hb : BagAt K H b) (e : Ext [b.a] H H1) (h : ManIs K H v m) : ManIs K H1 v m := h.x e (bagS hb)
section
variable {P : Program} {w : World} {K : PySem.W.Frag} {mg : Str → Option Value} {base : Heap} {f : Addr} {fd : FuncData}
def spWishes (K : PySem.W.Frag) : Sp := fun vs H Q _ => ∃ (b : Bag) (n g : Nat), vs = [.ref b.a, .int (n : Int), .int (g : Int)] ∧ BagAt K H b ∧ n ≤ 8 ∧ 0 < g ∧ g ≤ 2 ^ 60 ∧ ∀ c xs rows H', H c = none → H' c = some (.lst xs) → RowsIs K H' xs rows → (∀ r ∈ rows, RowG (12 * g) r) → rows.length ≤ n → BagAt K H' b → Ext [b.a] H H' → Q (.ref c) H'
theorem rowg_ok {D w : Nat} {man : Option (Rat × Rat)} {q : Rat} (h1 : ManOk D 4096 man) (h2 : In D 4096 q) (h0 : 0 < w) (h12 : w ≤ 12) : RowG D ⟨man, w, q⟩ := ⟨⟨h0, h12, h2, fun l u e => ⟨(h1 l u e).1, (h1 l u e).2.1⟩⟩, fun l u e => (h1 l u e).2.2⟩
theorem RowG.man {D : Nat} {r : Row} (h : RowG D r) : ManOk D 4096 r.man := fun l u e => ⟨(h.ok.m l u e).1, (h.ok.m l u e).2, h.lu l u e⟩
theorem of_two {H : Hp} {b : Bag} {l : Addr} {x y : V} {Q : VK} {E : XK} (hb : BagAt K H b) (hl : SqL K H l [x, y]) (hne : b.a ≠ l) (k : ∀ z H', z = x ∨ z = y → BagAt K H' b → Ext [b.a] H H' → Q z H') : spOf K [.ref b.a, .ref l] H Q E :=
  ⟨b, l, _, rfl, hb, hl, hne, Nat.zero_lt_succ _, show 2 ≤ 4000 by decide, fun i z H' hx hb' e => by
    match i, hx with
    | 0, hx => cases hx; exact k _ H' (.inl rfl) hb' e
    | 1, hx => cases hx; exact k _ H' (.inr rfl) hb' e
    | i + 2, hx => cases hx⟩
abbrev s_law_wishes : Stmt := top 41
theorem c_law_wishes : FnScope ["_law_bag_here", "_law_bulk", "_law_grid_here", "_law_many", "_law_alike", "_law_lid", "_law_rows", "_law_k", "_law_row"] ["_law_bag_here", "_law_bulk", "_law_grid_here"] (defScope s_law_wishes) := ⟨rfl, rfl, rfl, by decide +kernel, rfl, by decide +kernel, by decide +kernel⟩
theorem f_law_wishes (F : FunD K "_law_wishes" "_law_wishes" (defArgs s_law_wishes) (defBody s_law_wishes) (defScope s_law_wishes) [] [] f fd) (hm : mg "_law_wishes" = some (.ref f)) (T : Bt mg) (F_law_draw : Fn P w K mg base 1 "_law_draw" (spDraw K)) (F_law_of : Fn P w K mg base 2 "_law_of" (spOf K)) (F_law_bit : Fn P w K mg base 3 "_law_bit" (spBit K)) (F_law_fine : Fn P w K mg base 4 "_law_fine" (spFine K)) (F_law_wish : Fn P w K mg base 5 "_law_wish" (spWish K)) : Fn P w K mg base 6 "_law_wishes" (spWishes K) := by
  refine fn_def F hm c_law_wishes (fun vs H Q E h => ?_) (fun _ _ _ _ _ _ us hl => match us, hl with | [_, _, _], _ => rfl) (fun cdv A outer s H vs Q E hr h => ?_)
  · obtain ⟨b, n, g, rfl, _⟩ := h
    rfl
  · obtain ⟨b, n, g, rfl, hb, n8, g0, g9, k⟩ := h
    have nd := c_law_wishes.nd
    refine ⟨_, (pss_cons (ps_set (i := 3) nd rfl (by first | exact Or.inl rfl | exact Or.inr rfl) (pe_fn F_law_draw (hr.mono (by decide)) (pa_cons (pv 0) (pa_cons (pe_op op_add (pv 1) pe_int) pa_nil))))
      (pss_cons (ps_set (i := 4) nd rfl (by first | exact Or.inl rfl | exact Or.inr rfl) (pe_fn F_law_draw (hr.mono (by decide)) (pa_cons (pv 0) (pa_cons pe_int pa_nil))))
      (pss_cons (ps_set (i := 5) nd rfl (by first | exact Or.inl rfl | exact Or.inr rfl) (pe_fn F_law_bit (hr.mono (by decide)) (pa_cons (pv 0) pa_nil)))
      (pss_cons (ps_set (i := 6) nd rfl (by first | exact Or.inl rfl | exact Or.inr rfl) (pe_lst pa_nil))
      (pss_cons (ps_for PassesOwn.never rfl (pi_range1 rfl T.range (pa_cons (pv 3) pa_nil)) (pg_name (i := 7) nd rfl (by first | exact Or.inl rfl | exact Or.inr rfl))
        (pss_cons (ps_set (i := 8) nd rfl (by first | exact Or.inl rfl | exact Or.inr rfl) (pe_tup (pa_cons (pe_fn F_law_wish (hr.mono (by decide)) (pa_cons (pv 0) (pa_cons (pv 2) pa_nil))) (pa_cons (pe_fn F_law_of (hr.mono (by decide)) (pa_cons (pv 0) (pa_cons (pe_lst (pa_cons pe_int (pa_cons pe_int (pa_cons pe_int (pa_cons pe_int (pa_cons (pe_op op_add pe_int (pe_fn F_law_draw (hr.mono (by decide)) (pa_cons (pv 0) (pa_cons pe_int pa_nil)))) pa_nil)))))) pa_nil))) (pa_cons (pe_fn F_law_of (hr.mono (by decide)) (pa_cons (pv 0) (pa_cons (pe_lst (pa_cons (pe_tup (pa_cons pe_int (pa_cons pe_int pa_nil))) (pa_cons (pe_tup (pa_cons pe_int (pa_cons pe_int pa_nil))) (pa_cons (pe_fn F_law_bit (hr.mono (by decide)) (pa_cons (pv 0) pa_nil)) (pa_cons (pv 5) (pa_cons (pe_fn F_law_fine (hr.mono (by decide)) (pa_cons (pv 0) (pa_cons (pv 2) pa_nil))) pa_nil)))))) pa_nil))) pa_nil)))))
        (pss_mid (ps_if (PW.pt (pw_and (pt_cmpR op_eq (pv 4) pe_int (nomark _)) (pw_and (pt_cmpR (op_neD hr.units) (pv 6) (pe_lst pa_nil) (nomark _)) (pw_and1 (pt_cmpR op_eq (pe_fn F_law_draw (hr.mono (by decide)) (pa_cons (pv 0) (pa_cons pe_int pa_nil))) pe_int (nomark _))))))
          (pss_one (ps_set (i := 8) nd rfl (by first | exact Or.inl rfl | exact Or.inr rfl) (pe_tup (pa_cons (pe_fn F_law_of (hr.mono (by decide)) (pa_cons (pv 0) (pa_cons (pe_lst (pa_cons (pe_ix ix_tup (pe_ix ix_list (pv 6) pe_int (fun _ _ => rfl)) pe_int (fun _ _ => rfl)) (pa_cons (pe_ix ix_tup (pv 8) pe_int (fun _ _ => rfl)) pa_nil))) pa_nil))) (pa_cons (pe_ix ix_tup (pv 8) pe_int (fun _ _ => rfl)) (pa_cons (pe_fn F_law_of (hr.mono (by decide)) (pa_cons (pv 0) (pa_cons (pe_lst (pa_cons (pe_ix ix_tup (pe_ix ix_list (pv 6) pe_int (fun _ _ => rfl)) pe_int (fun _ _ => rfl)) (pa_cons (pe_ix ix_tup (pv 8) pe_int (fun _ _ => rfl)) pa_nil))) pa_nil))) pa_nil))))))
          pss_nil)
        (pss_one (ps_expr (pe_bm PySem.F.plainAttrs_list PySem.F.slot_list_append PySem.F.type_list_append mt_append (pv 6) (pa_cons (pv 8) pa_nil)))))))
      (pss_one (ps_ret (pv 6)))))))), ?_⟩
    show (_ : TS) _ [some _, some _, some _, none, none, none, none, none, none] _
    try dsimp only [cxOf, Cx.nox]
    walk_at "go"
    refine k_draw hb (by omega) (Int.lt_of_le_of_lt (by omega : (n : Int) + 1 ≤ 9) (by decide)) fun x1 H1 l1 u1 b1 n1 => ?_
    walk_at "go"
    refine k_draw b1 (by decide) (by decide) fun x2 H2 l2 u2 b2 n2 => ?_
    walk_at "go"
    refine k_bit b2 fun lv lq H3 al il b3 n3 => ?_
    have il' : In (12 * g) 4096 lq := (il.up (Nat.dvd_mul_right _ _)).most (by decide)
    walk_at "go"
    rename_i c hc
    have e3 := (n1.trans n2).trans n3
    have hc0 : H c = none := e3.freeS hc fun a ha => by rw [List.mem_singleton.mp ha]; obtain ⟨l, q⟩ := b3.lst; rw [q]; exact fun z => nomatch z
    have W0 : WS K H (upd H3 c (.lst [])) b c g [] [] lv lq := ⟨upd_same, Rel.nil, fun r hr => (nomatch hr), b3.new hc, e3.new hc, al.n hc, (b3.ne hc).symm⟩
    refine r_for ?_
    walk_at "go"
    refine ⟨_, rfl, by omega, by omega, ?_⟩
    refine r_loopR (fun j σ H' => ∃ (xs : List V) (rows : List Row) (u7 u8 : Option V), σ = [some (V.ref b.a), some (V.int (n : Int)), some (V.int (g : Int)), some (V.int x1), some (V.int x2), some lv, some (V.ref c), u7, u8] ∧ WS K H H' b c g xs rows lv lq ∧ rows.length = j)
      ⟨[], [], none, none, rfl, W0, rfl⟩ ?_ ?_
    · rintro j σ H4 hj ⟨xs, rows, u7, u8, rfl, W, lr⟩
      walk_at "go"
      refine ⟨b, g, rfl, W.bag, g0, g9, fun mv man H5 hm mo b5 n5 => ?_⟩
      walk_at "go"
      have W5 := W.bx n5 b5
      refine k_draw b5 (by decide) (by decide) fun x3 H6 l3 u3 b6 n6 => ?_
      walk_at "go"
      rename_i p hp
      have W6 := W5.bx n6 b6
      have hm6 := hm.b b5 n6
      refine of_int (ns := [1, 1, 2, 3, 1 + x3]) (b6.new hp) lstS (b6.ne hp) (Nat.zero_lt_succ _) (show 5 ≤ 4000 by decide) fun wt H7 hx b7 n7 => ?_
      have hw : 1 ≤ wt ∧ wt ≤ 12 := by
        simp only [List.mem_cons, List.not_mem_nil, or_false] at hx
        rcases hx with rfl | rfl | rfl | rfl | rfl <;> omega
      have ew : wt = ((wt.toNat : Nat) : Int) := by omega
      have e7 := (Ext.refl.new (S := [b.a]) (o := .lst ([1, 1, 2, 3, 1 + x3].map V.int)) hp).trans n7
      have W7 := W6.bx e7 b7
      have hm7 := hm6.b b6 e7
      walk_at "go"
      rename_i p1 hp1 p2 hp2
      have e8 : Ext [] H7 (upd (upd H7 p1 (.tup [.int 1000, .int 1])) p2 (.tup [.int 1000, .int 1])) := by walk_at "ext"
      have W8 := W7.x0 e8
      have hm8 := hm7.x0 e8
      have b8 := W8.bag
      have t1 : Am K (upd (upd H7 p1 (.tup [.int 1000, .int 1])) p2 (.tup [.int 1000, .int 1])) (.ref p1) 1000 := ⟨p1, rfl, by walk_at "sq"⟩
      have t2 : Am K (upd (upd H7 p1 (.tup [.int 1000, .int 1])) p2 (.tup [.int 1000, .int 1])) (.ref p2) 1000 := ⟨p2, rfl, by walk_at "sq"⟩
      generalize upd (upd H7 p1 (.tup [.int 1000, .int 1])) p2 (.tup [.int 1000, .int 1]) = H8 at *
      refine k_bit b8 fun v4 q4 H9 a4 i4 b9 n9 => ?_
      walk_at "go"
      have W9 := W8.bx n9 b9
      refine ⟨b, g, rfl, b9, g0, g9, fun v5 q5 H10 a5 i5 b10 n10 => ?_⟩
      have W10 := W9.bx n10 b10
      walk_at "go"
      rename_i pl hpl
      have n8_10 := n9.trans n10
      refine of_am (qs := [1000, 1000, q4, lq, q5]) (b10.new hpl) lstS (b10.ne hpl) ?_ (Nat.zero_lt_succ _) (show 5 ≤ 4000 by decide) fun bv bq H11 hq abv b11 n11 => ?_
      · exact Ams.cons ((t1.b b8 n8_10).n hpl) (Ams.cons ((t2.b b8 n8_10).n hpl) (Ams.cons ((a4.b b9 n10).n hpl) (Ams.cons (W10.lid.n hpl) (Ams.cons (a5.n hpl) Ams.nil))))
      have ib : In (12 * g) 4096 bq := by
        simp only [List.mem_cons, List.not_mem_nil, or_false] at hq
        rcases hq with rfl | rfl | rfl | rfl | rfl
        · exact In.nat (n := 1000) (by decide)
        · exact In.nat (n := 1000) (by decide)
        · exact (i4.up (Nat.dvd_mul_right _ _)).most (by decide)
        · exact il'
        · exact i5.most (by decide)
      have e11 := (Ext.refl.new (S := [b.a]) (o := .lst [.ref p1, .ref p2, v4, lv, v5]) hpl).trans n11
      have W11 := W10.bx e11 b11
      have hm11 := (hm8.b b8 n8_10).b b10 e11
      walk_at "go"
      rename_i pr hpr
      have W12 := W11.x0 (Ext.refl.new (o := .tup [mv, .int wt, bv]) hpr)
      have hr12 : RowIs K (upd H11 pr (.tup [mv, .int wt, bv])) (.ref pr) ⟨man, wt.toNat, bq⟩ := ⟨pr, mv, bv, rfl, by rw [← ew]; exact tupS, hm11.x0 (Ext.refl.new hpr), abv.n hpr⟩
      have hg12 : RowG (12 * g) ⟨man, wt.toNat, bq⟩ := rowg_ok mo ib (by show 0 < wt.toNat; omega) (by show wt.toNat ≤ 12; omega)
      generalize upd H11 pr (.tup [mv, .int wt, bv]) = H12 at *
      clear W11 W10 W9 W8 W7 W6 W5 W hm11 hm8 hm7 hm6 hm
      refine r_mid (fun σ' H' => ∃ (v : V) (r : Row), σ' = [some (V.ref b.a), some (V.int (n : Int)), some (V.int (g : Int)), some (V.int x1), some (V.int x2), some lv, some (V.ref c), some (V.int (0 + (j : Int))), some v] ∧ WS K H H' b c g xs rows lv lq ∧ RowIs K H' v r ∧ RowG (12 * g) r) ?_ ?_
      · walk_at "go"
        refine r_dec (fun h1 => ?_) (fun h1 => ?_)
        · walk_at "go"
          rename_i pe hpe
          refine ne_rows (W12.rel.x0 (Ext.refl.new hpe)) (.inl (.inl (W12.x0 (Ext.refl.new hpe)).at_)) lstS ?_
          have W13 := W12.x0 (Ext.refl.new (o := .lst []) hpe)
          have hr13 := hr12.x0 (Ext.refl.new (o := .lst []) hpe)
          generalize upd H12 pe (.lst []) = H13 at *
          walk_at "go"
          cases rows with
          | nil =>
            walk_at "run"
            exact ⟨_, _, rfl, W13, hr13, hg12⟩
          | cons r0 rt =>
            refine r_true rfl ?_
            walk_at "go"
            refine k_draw W13.bag (by decide) (by decide) fun x4 H14 l4 u4 b14 n14 => ?_
            have W14 := W13.bx n14 b14
            have hr14 := hr13.b W13.bag n14
            walk_at "go"
            refine r_dec (fun h2 => ?_) (fun h2 => ?_)
            · have hxs := W14.rel
              obtain ⟨v0, xt, rfl⟩ : ∃ v0 xt, xs = v0 :: xt := by
                cases xs with
                | nil => exact absurd hxs.1 (by simp)
                | cons v0 xt => exact ⟨v0, xt, rfl⟩
              obtain ⟨a0, mv0, bv0, rfl, ht0, hm0, hb0⟩ := hxs.hd
              obtain ⟨ar, mvr, bvr, ear, htr, hmr, hbr⟩ := hr14
              cases ear
              have hg0 := W14.ok r0 List.mem_cons_self
              walk_at "go"
              refine r_ixL (.inl (.inl W14.at_)) at0 ?_
              walk_at "go"
              rename_i pm hpm
              refine of_two (W14.bag.new hpm) lstS (W14.bag.ne hpm) fun m2 H15 hm2 b15 n15 => ?_
              have e15 := (Ext.refl.new (S := [b.a]) (o := .lst [mv0, mvr]) hpm).trans n15
              have W15 := W14.bx e15 b15
              have ht0' := tupB W14.bag e15 ht0
              have htr' := tupB W14.bag e15 htr
              have M15 : ∃ m, ManIs K H15 m2 m ∧ ManOk (12 * g) 4096 m := by
                rcases hm2 with rfl | rfl
                · exact ⟨_, hm0.b W14.bag e15, hg0.man⟩
                · exact ⟨_, hmr.b W14.bag e15, hg12.man⟩
              obtain ⟨m, hm15, mo15⟩ := M15
              have hb0' := hb0.b W14.bag e15
              have hbr' := hbr.b W14.bag e15
              walk_at "go"
              refine r_ixL (.inl (.inl W15.at_)) at0 ?_
              walk_at "go"
              rename_i pb hpb
              refine of_two (W15.bag.new hpb) lstS (W15.bag.ne hpb) fun b2v H16 hb2 b16 n16 => ?_
              have e16 := (Ext.refl.new (S := [b.a]) (o := .lst [bv0, bvr]) hpb).trans n16
              have W16 := W15.bx e16 b16
              have B16 : ∃ q, Am K H16 b2v q ∧ In (12 * g) 4096 q := by
                rcases hb2 with rfl | rfl
                · exact ⟨_, hb0'.b W15.bag e16, hg0.ok.b⟩
                · exact ⟨_, hbr'.b W15.bag e16, ib⟩
              obtain ⟨q, ha16, iq16⟩ := B16
              walk_at "go"
              rename_i pt hpt
              refine ⟨_, ⟨m, wt.toNat, q⟩, rfl, W16.x0 (Ext.refl.new hpt), ⟨pt, m2, b2v, rfl, tupS, (hm15.b W15.bag e16).x0 (Ext.refl.new hpt), ha16.n hpt⟩, rowg_ok mo15 iq16 (by omega) (by omega)⟩
            · walk_at "run"
              exact ⟨_, _, rfl, W14, hr14, hg12⟩
        · walk_at "run"
          exact ⟨_, _, rfl, W12, hr12, hg12⟩
      · rintro σ' H13 ⟨v, r, rfl, W13, hr13, hg13⟩
        walk_at "go"
        refine ⟨ty_lst W13.at_, ?_⟩
        walk_at "go"
        have lx := W13.rel.1
        refine r_app W13.at_ (by omega) ?_
        walk_at "go"
        refine ⟨xs ++ [v], rows ++ [r], _, _, rfl, ⟨upd_same, (W13.rel.w W13.at_).snoc (hr13.w W13.at_), fun r' hr' => ?_, hb.own hc0 W13.bag, W13.ext.own hc0, W13.lid.w W13.at_, W13.nb⟩, by rw [List.length_append, lr]; rfl⟩
        rcases List.mem_append.mp hr' with h | h
        · exact W13.ok r' h
        · rw [List.mem_singleton.mp h]; exact hg13
    · rintro σ H4 ⟨xs, rows, u7, u8, rfl, W, lr⟩
      walk_at "go"
      exact k c xs rows H4 hc0 W.at_ W.rel W.ok (by omega) W.bag W.ext
end
end Yk

set_option maxHeartbeats 8000000
namespace Yk
open PySem PySem.Spec PyProof.Rows L2

/-- rows of a draw, with its grid -/
structure GR (g : Nat) (rows : List Row) : Prop where
  g0 : 0 < g
  g9 : g ≤ 2 ^ 60
  ok : ∀ r ∈ rows, RowG (12 * g) r
  n : rows.length ≤ 8
section
variable {g : Nat} {rows : List Row}
theorem GR.row (h : GR g rows) : ∀ r ∈ rows, RowOk (12 * g) 4096 r := fun r hr => (h.ok r hr).ok
theorem dvE {g : Nat} : 12 * g * 27720 ∣ 665280 * g := ⟨2, by omega⟩
theorem dvE1 {g : Nat} : 12 * g * 27720 ∣ 332640 * g := ⟨1, by omega⟩
theorem dvDE {g : Nat} : 12 * g ∣ 665280 * g := ⟨55440, by omega⟩
theorem dvDE1 {g : Nat} : 12 * g ∣ 332640 * g := ⟨27720, by omega⟩
theorem dvE1E {g : Nat} : 332640 * g * 2 = 665280 * g := by omega
theorem GR.E9 (h : GR g rows) : 665280 * g ≤ 2 ^ 140 := Nat.le_trans (Nat.mul_le_mul_left 665280 h.g9) (by decide)
theorem GR.E19 (h : GR g rows) : 332640 * g ≤ 2 ^ 140 := Nat.le_trans (Nat.mul_le_mul_left 332640 h.g9) (by decide)
theorem GR.tok (h : GR g rows) {X : Nat} {x : Rat} (h0 : 0 < X) (h9 : X ≤ 2 ^ 400) (hd : 12 * g ∣ X) (hx : In X 4096 x) : TotOk X 4096 4096 rows x := ⟨h0, h9, by decide, by decide, fun r hr => (h.row r hr).up hd, hx, h.n⟩
theorem GR.tin (h : GR g rows) {X : Nat} {x : Rat} (hd : 12 * g ∣ X) (hx : In X 4096 x) : In X 32768 (tot rows x) := (tot_in hx fun r hr => (h.row r hr).up hd).most (Nat.mul_le_mul_right 4096 h.n)
theorem GR.lev (h : GR g rows) {goal : Rat} (hg : In (665280 * g) 65536 goal) : LevOk (12 * g) (665280 * g) 4096 65536 rows goal 1000 :=
  ⟨by have := h.g0; omega, h.row, h.n, dvE, by have := h.g0; omega, h.E9, by decide, by decide, hg, In.nat (n := 1000) (by decide)⟩
theorem sz65 {X : Nat} {q : Rat} {M : Nat} (h : In X M q) (h0 : 0 < X) (h9 : X ≤ 2 ^ 400) (hM : M ≤ 2 ^ 20) : Sz 4000 q := (h.sz h0 h9 hM).mono (by decide)
end
section
variable {P : Program} {w : World} {K : PySem.W.Frag} {mg : Str → Option Value} {base : Heap} {f : Addr} {fd : FuncData}
def spSupply (K : PySem.W.Frag) : Sp := fun vs H Q _ => ∃ (b : Bag) (c : Addr) (g : Nat) (xs : List V) (rows : List Row), vs = [.ref b.a, .ref c] ∧ BagAt K H b ∧ H c = some (.lst xs) ∧ c ≠ b.a ∧ RowsIs K H xs rows ∧ GR g rows ∧
  ∀ v q H', Am K H' v q → In (665280 * g) 65536 q → 0 < q → BagAt K H' b → Ext [b.a] H H' → Q v H'
theorem one_frac {d : Nat} (h : 0 < d) : (⟨1, d, by omega, by simp⟩ : Rat) = mkRat ((1 : Nat) : Int) d := by
  exact Rat.mk_eq_mkRat _ _ _ _
theorem le_two : (2 : Nat) ^ 140 ≤ 2 ^ 400 := Nat.pow_le_pow_right (by decide) (by decide)
theorem half_eq (q : Rat) : q * mkRat ((1 : Nat) : Int) 2 = q * (1 / 2) := by rw [Rat.mkRat_eq_div]; norm_cast
end
end Yk

set_option maxHeartbeats 8000000
namespace Yk
open PySem PySem.Spec PyProof.Rows L2

section
variable {P : Program} {w : World} {K : PySem.W.Frag} {mg : Str → Option Value} {base : Heap} {f : Addr} {fd : FuncData}
/-- a level with its size -/
structure LevAt (E : Nat) (rows : List Row) (goal y : Rat) (X : Nat) : Prop where
  lev : IsLev (tot rows) 1000 goal y
  X0 : 0 < X
  dv : E ∣ X
  X9 : X ≤ 2 ^ 310
  inn : In X 4096 y
theorem x220 {X : Nat} (h : X ≤ 2 ^ 310) : X ≤ 2 ^ 400 := Nat.le_trans h (Nat.pow_le_pow_right (by decide) (by decide))
def spLevelSo (K : PySem.W.Frag) : Sp := fun vs H Q _ => ∃ (s d : V) (c : Addr) (g X : Nat) (xs : List V) (rows : List Row) (goal y : Rat), vs = [s, .ref c, d] ∧ Am K H s goal ∧ SqL K H c xs ∧ RowsIs K H xs rows ∧ Am K H d y ∧ GR g rows ∧ In (665280 * g) 65536 goal ∧ LevAt (665280 * g) rows goal y X ∧
  ∀ H', Ext [] H H' → Q (.bl true) H'
end
end Yk

set_option maxHeartbeats 8000000
namespace Yk
open PySem PySem.Spec PyProof.Rows L2

theorem permG {α : Type} (xs : List α) (z : α) (k : Nat) : (xs.take k ++ [z] ++ xs.drop k).Perm (z :: xs) := by
  have h : (xs.take k ++ z :: xs.drop k).Perm (z :: (xs.take k ++ xs.drop k)) := List.perm_middle
  rw [List.take_append_drop] at h
  rw [List.append_assoc]
  exact h
section
variable {K : PySem.W.Frag} {H : Hp}
theorem man_eqd {v w : V} {m : Option (Rat × Rat)} (h : ManIs K H v m) (g : ManIs K H w m) : Eqd K H 2 v w := by
  cases m with
  | none =>
    obtain ⟨a, rfl, h⟩ := h
    obtain ⟨b, rfl, g⟩ := g
    exact .tup h g rfl (by simp) fun i x y hx _ => by simp at hx
  | some p =>
    obtain ⟨a, v1, v2, rfl, h, a1, a2⟩ := h
    obtain ⟨b, w1, w2, rfl, g, b1, b2⟩ := g
    refine .tup h g rfl (show 2 ≤ 4000 by decide) fun i x y hx hy => ?_
    match i, hx, hy with
    | 0, hx, hy => cases hx; cases hy; exact a1.eqd 0 b1
    | 1, hx, hy => cases hx; cases hy; exact a2.eqd 0 b2
    | i + 2, hx, _ => cases hx
theorem row_eqd {v w : V} {r : Row} (h : RowIs K H v r) (g : RowIs K H w r) : Eqd K H 3 v w := by
  obtain ⟨a, mv, bv, rfl, h, h1, h2⟩ := h
  obtain ⟨b, mw, bw, rfl, g, g1, g2⟩ := g
  refine .tup h g rfl (show 3 ≤ 4000 by decide) fun i x y hx hy => ?_
  match i, hx, hy with
  | 0, hx, hy => cases hx; cases hy; exact man_eqd h1 g1
  | 1, hx, hy => cases hx; cases hy; exact .int _ _
  | 2, hx, hy => cases hx; cases hy; exact h2.eqd 1 g2
  | i + 3, hx, _ => cases hx
theorem rows_eqd {a b : Addr} {xs ys : List V} {rows : List Row} (h1 : SqL K H a xs) (h2 : SqL K H b ys) (h : RowsIs K H xs rows) (g : RowsIs K H ys rows) (n : rows.length ≤ 4000) : Eqd K H 4 (.ref a) (.ref b) :=
  .lst h1 h2 (h.1.trans g.1.symm) (by rw [h.1]; exact n) fun i x y hx hy => by
    obtain ⟨r, hr, e⟩ := h.at_ hx
    exact row_eqd e (g.2 i y r hy hr)
end
section
variable {P : Program} {w : World} {K : PySem.W.Frag} {mg : Str → Option Value} {base : Heap} {f : Addr} {fd : FuncData}
theorem k_level {H : Hp} {Q : VK} {E : XK} {v : V} {a : Addr} {g : Nat} {xs : List V} {rows : List Row} {goal : Rat} (ha : SqQ K H a xs) (hr : RowsIs K H xs rows) (hv : Am K H v goal) (G : GR g rows) (ig : In (665280 * g) 65536 goal)
    (k : ∀ v y X H', LevAt (665280 * g) rows goal y X → Ext [] H H' → Am K H' v y → Q v H') : spLevel K [v, .ref a] H Q E :=
  ⟨v, a, xs, rows, _, _, _, _, goal, rfl, ha, hr, hv, G.lev ig, fun v y X H' l x0 x1 x2 x3 e av => k v y X H' ⟨l, x0, x1, x2, x3⟩ e av⟩
theorem k_llevel {H : Hp} {Q : VK} {E : XK} {v : V} {a : Addr} {g : Nat} {xs : List V} {rows : List Row} {goal : Rat} (ha : SqL K H a xs) (hr : RowsIs K H xs rows) (hv : Am K H v goal) (G : GR g rows) (ig : In (665280 * g) 65536 goal)
    (k : ∀ v y X H', LevAt (665280 * g) rows goal y X → Ext [] H H' → Am K H' v y → Q v H') : spLLevel K [v, .ref a] H Q E :=
  ⟨v, a, xs, rows, _, _, _, _, goal, rfl, ha, hr, hv, G.lev ig, fun v y X H' l x0 x1 x2 x3 e av => k v y X H' ⟨l, x0, x1, x2, x3⟩ e av⟩
theorem k_mixed {H : Hp} {Q : VK} {E : XK} {b : Bag} {c : Addr} {xs : List V} (hb : BagAt K H b) (hc : H c = some (.lst xs)) (n : c ≠ b.a) (h4 : xs.length ≤ 4000) (k : ∀ p ys H', ys.Perm xs → H p = none → H' p = some (.lst ys) → BagAt K H' b → Ext [b.a] H H' → Q (.ref p) H') : spMixed K [.ref b.a, .ref c] H Q E :=
  ⟨b, c, xs, rfl, hb, .inl (.inl hc), n.symm, h4, k⟩
theorem GR.perm {g : Nat} {rows rows' : List Row} (G : GR g rows) (p : rows'.Perm rows) : GR g rows' := ⟨G.g0, G.g9, fun r hr => G.ok r (p.subset hr), by rw [p.length_eq]; exact G.n⟩
theorem LevAt.same {E E' X X' : Nat} {rows rows' : List Row} {goal y z : Rat} (h : LevAt E rows goal y X) (g : LevAt E' rows' goal z X') (e : tot rows' = tot rows) : z = y := by
  have := g.lev
  rw [e] at this
  exact this.uniq h.lev
theorem RowsIs.b {H H1 : Hp} {b : Bag} {xs : List V} {rows : List Row} (hb : BagAt K H b) (e : Ext [b.a] H H1) (h : RowsIs K H xs rows) : RowsIs K H1 xs rows := h.x e (bagS hb)
end
end Yk

set_option maxHeartbeats 8000000
namespace Yk
open PySem PySem.Spec PyProof.Rows L2

theorem Row.lip (r : Row) {x y : Rat} (h : x ≤ y) : r.at_ y - r.at_ x ≤ (r.w : Rat) * (y - x) := by
  obtain ⟨man, w, b⟩ := r
  have w0 : (0 : Rat) ≤ (w : Rat) := natQ (Nat.zero_le w)
  cases man with
  | none =>
    have := mul_nn w0 (show 0 ≤ y - x by grind)
    show (0 : Rat) - 0 ≤ (w : Rat) * (y - x)
    grind
  | some p =>
    obtain ⟨l, m⟩ := p
    show lmax l (lmin m ((w : Rat) * lmin y b)) - lmax l (lmin m ((w : Rat) * lmin x b)) ≤ (w : Rat) * (y - x)
    have h1 : lmin y b - lmin x b ≤ y - x := by unfold lmin; grind
    have h2 := lmin_mono (r := b) h
    have h3 : (w : Rat) * (lmin y b - lmin x b) ≤ (w : Rat) * (y - x) := Rat.mul_le_mul_of_nonneg_left h1 w0
    have h4 : (w : Rat) * lmin x b ≤ (w : Rat) * lmin y b := wmono h2
    generalize lmin y b = Y at *
    generalize lmin x b = X at *
    have h5 : (w : Rat) * (Y - X) = (w : Rat) * Y - (w : Rat) * X := by grind
    generalize (w : Rat) * Y = B at *
    generalize (w : Rat) * X = A at *
    have h6 : lmax l (lmin m B) - lmax l (lmin m A) ≤ B - A := by unfold lmax lmin; grind
    grind
theorem tot_lip (rows : List Row) : ∃ W : Rat, 0 ≤ W ∧ ∀ x y, x ≤ y → tot rows y - tot rows x ≤ W * (y - x) := by
  induction rows with
  | nil => exact ⟨0, Rat.le_refl, fun x y h => by show (0 : Rat) - 0 ≤ _; grind⟩
  | cons r t ih =>
    obtain ⟨W, W0, hW⟩ := ih
    refine ⟨(r.w : Rat) + W, by have := natQ (Nat.zero_le r.w); grind, fun x y h => ?_⟩
    rw [tot_cons, tot_cons]
    have h1 := r.lip h
    have h2 := hW x y h
    grind
theorem lev_goal {rows : List Row} {top goal y : Rat} (L : IsLev (tot rows) top goal y) (h : 0 < y) : tot rows y ≤ goal := by
  obtain ⟨W, W0, hW⟩ := tot_lip rows
  refine Rat.not_lt.mp fun hg => ?_
  obtain ⟨e, he⟩ : ∃ e, e = (tot rows y - goal) / (W + 1) := ⟨_, rfl⟩
  have he2 : e * (W + 1) = tot rows y - goal := by rw [he]; grind
  have e0 : 0 < e := by
    refine Rat.not_le.mp fun z => ?_
    have := mul_nn (show 0 ≤ -e by grind) (show 0 ≤ W + 1 by grind)
    grind
  obtain ⟨d, hd⟩ : ∃ d, d = lmin y e := ⟨_, rfl⟩
  have d0 : 0 < d := by rw [hd]; unfold lmin; grind
  have d1 : d ≤ e := by rw [hd]; exact lmin_le2 _ _
  have d2 : d ≤ y := by rw [hd]; exact lmin_le1 _ _
  have h1 := L.lo (y - d) (by grind) (by grind)
  have h2 := hW (y - d) y (by grind)
  have h3 : W * (y - (y - d)) ≤ W * e := Rat.mul_le_mul_of_nonneg_left (by grind) W0
  grind
/-- the least wishes -/
def leasts (rows : List Row) : List Rat := rows.filterMap fun r => r.man.map (·.1)
theorem at_zero {D M : Nat} {r : Row} (h : RowOk D M r) : r.at_ 0 = (match r.man with | none => 0 | some p => p.1) := by
  obtain ⟨man, w, b⟩ := r
  have hb := h.b.nn
  have hm := h.m
  cases man with
  | none => rfl
  | some p =>
    obtain ⟨l, m⟩ := p
    obtain ⟨h1, h2⟩ := hm l m rfl
    have := h1.nn
    have := h2.nn
    show lmax l (lmin m ((w : Rat) * lmin 0 b)) = l
    have : lmin 0 b = 0 := by unfold lmin; grind
    rw [this, Rat.mul_zero]
    unfold lmax lmin
    grind
theorem tot_zero {D M : Nat} : ∀ {rows : List Row}, (∀ r ∈ rows, RowOk D M r) → tot rows 0 = sumQ (leasts rows)
  | [], _ => rfl
  | r :: t, h => by
    have h1 := at_zero (h r List.mem_cons_self)
    have h2 := tot_zero (rows := t) fun r hr => h r (List.mem_cons_of_mem _ hr)
    rw [tot_cons, h1, h2]
    unfold leasts
    cases e : r.man with
    | none => rw [List.filterMap_cons, e]; simp [Rat.zero_add]
    | some p => rw [List.filterMap_cons, e]; simp [sumQ_cons]
theorem at_between {D M : Nat} {r : Row} (h : RowOk D M r) {l u : Rat} (hm : r.man = some (l, u)) (lu : l ≤ u) (x : Rat) : l ≤ r.at_ x ∧ r.at_ x ≤ u := by
  unfold Row.at_ shq
  rw [hm]
  dsimp only
  unfold lmax lmin
  grind
theorem in_any {m : Nat} {q : Rat} (h : 0 ≤ q) (z : Sz m q) : In q.den (2 ^ m) q := by
  have e2 : (q.num : Rat) / (q.den : Rat) = q := by rw [← Rat.mkRat_eq_div]; exact Rat.mkRat_self q
  have d0 := natP q.den_pos
  have d1 : (1 : Rat) ≤ (q.den : Rat) := by exact_mod_cast q.den_pos
  have e3 : q * (q.den : Rat) = (q.num : Rat) := by grind
  refine ⟨h, ?_, q.num, e3⟩
  have hn := num_nn h
  have h1 : q.num ≤ ((2 ^ m : Nat) : Int) := by have := z.1; omega
  have h2 : (q.num : Rat) ≤ ((2 ^ m : Nat) : Rat) := by exact_mod_cast h1
  have h3 : q * 1 ≤ q * (q.den : Rat) := Rat.mul_le_mul_of_nonneg_left d1 h
  grind

section
variable {nx : L2.St → Hp → Prop} {rt : VK} {σ : L2.St} {H : Hp} {K : PySem.W.Frag} {g : TG} {t : TS}
theorem r_loopZ {a b : Addr} {xs ys : List V} (hl : xs.length = ys.length) (Pv : Nat → L2.St → Hp → Prop) (h0 : Pv 0 σ H) (hq : ∀ i σ H, Pv i σ H → SqL K H a xs ∧ SqL K H b ys)
    (hs : ∀ (i : Nat) (x y : V) (T : Addr) σ (H : Hp), xs[i]? = some x → ys[i]? = some y → Pv i σ H → H T = none → g (.ref T) σ (upd H T (.tup [x, y])) fun σ2 H2 => t ⟨Pv (i + 1), rt, nx, Pv (i + 1)⟩ σ2 H2) (hd : ∀ σ H, Pv xs.length σ H → nx σ H) :
    ∃ W : Nat → Nat → L2.St → Hp → Prop, (∃ m, W 0 m σ H) ∧ ∀ i m σ H, W i m σ H →
      ((Itz K a b).stop i H ∧ nx σ H) ∨ ((Itz K a b).go i H ∧ ∃ N : L2.St → Hp → Prop, (∀ σ' H', N σ' H' → ∃ m', m' < m ∧ W (i + 1) m' σ' H') ∧ ∀ x H', (Itz K a b).yld i H x H' → g x σ H' fun σ2 H2 => t ⟨N, rt, nx, N⟩ σ2 H2) := by
  refine ⟨fun i m σ H => m = xs.length - i ∧ i ≤ xs.length ∧ Pv i σ H, ⟨xs.length, rfl, Nat.zero_le _, h0⟩, ?_⟩
  rintro i m σ H ⟨rfl, hi, p⟩
  obtain ⟨qx, qy⟩ := hq i σ H p
  by_cases hlt : i < xs.length
  · have hx : xs[i]? = some xs[i] := List.getElem?_eq_getElem hlt
    have hlt2 : i < ys.length := by omega
    have hy : ys[i]? = some ys[i] := List.getElem?_eq_getElem hlt2
    refine .inr ⟨⟨xs, ys, _, _, qx, qy, hx, hy⟩, Pv (i + 1), fun σ' H' p' => ⟨xs.length - (i + 1), by omega, rfl, hlt, p'⟩, fun v H' y => ?_⟩
    obtain ⟨T, x', y', rfl, hT, rfl, f1, f2⟩ := y
    exact hs i x' y' T σ _ (f1 xs qx) (f2 ys qy) p hT
  · have e : i = xs.length := by omega
    subst e
    exact .inl ⟨⟨xs, ys, qx, qy, .inl (Nat.le_refl _)⟩, hd σ H p⟩
end
section
variable {P : Program} {w : World} {K : PySem.W.Frag} {mg : Str → Option Value} {base : Heap} {f : Addr} {fd : FuncData}
def RetAll (K : PySem.W.Frag) (H : Hp) (Q : VK) (qs : List Rat) : Prop := ∀ (c : Addr) (zs : List V) H', H c = none → H' c = some (.lst zs) → Ams K H' zs qs → Ext [] H H' → Q (.ref c) H'
def spAllot (K : PySem.W.Frag) : Sp := fun vs H Q _ => ∃ (a : Addr) (xs : List V) (rows : List Row) (v : V) (x : Rat) (X M N : Nat), vs = [v, .ref a] ∧ SqQ K H a xs ∧ RowsIs K H xs rows ∧ Am K H v x ∧ TotOk X M N rows x ∧ RetAll K H Q (rows.map fun r => r.at_ x)
def spParts (K : PySem.W.Frag) : Sp := fun vs H Q _ => ∃ (a : Addr) (xs : List V) (rows : List Row) (v : V) (x : Rat) (X M N : Nat), vs = [.ref a, v] ∧ SqL K H a xs ∧ RowsIs K H xs rows ∧ Am K H v x ∧ TotOk X M N rows x ∧ RetAll K H Q (rows.map fun r => r.at_ x)
def spAtSo (K : PySem.W.Frag) : Sp := fun vs H Q _ => ∃ (bv v : V) (c : Addr) (xs : List V) (rows : List Row) (x : Rat) (X M N : Nat), vs = [bv, .ref c, v] ∧ H c = some (.lst xs) ∧ RowsIs K H xs rows ∧ Am K H v x ∧ TotOk X M N rows x ∧ ∀ H', Ext [] H H' → Q (.bl true) H'
def spEnough (K : PySem.W.Frag) : Sp := fun vs H Q _ => ∃ (b : Bag) (c : Addr) (g : Nat) (xs : List V) (rows : List Row), vs = [.ref b.a, .ref c] ∧ BagAt K H b ∧ H c = some (.lst xs) ∧ c ≠ b.a ∧ RowsIs K H xs rows ∧ GR g rows ∧
  ∀ v q H', Am K H' v q → In (665280 * g) 65536 q → tot rows 0 ≤ q → BagAt K H' b → Ext [b.a] H H' → Q v H'
theorem leasts_take {rows : List Row} {i : Nat} {r : Row} (h : rows[i]? = some r) : leasts (rows.take (i + 1)) = leasts (rows.take i) ++ (match r.man with | none => [] | some p => [p.1]) := by
  obtain ⟨hl, e⟩ := List.getElem?_eq_some_iff.mp h
  unfold leasts
  rw [← List.take_append_getElem hl, List.filterMap_append, e]
  congr 1
  cases er : r.man with
  | none => rw [List.filterMap_cons, er]; simp
  | some p => rw [List.filterMap_cons, er]; simp
theorem leasts_in {D M : Nat} {rows : List Row} (h : ∀ r ∈ rows, RowOk D M r) : ∀ q ∈ leasts rows, In D M q := fun q hq => by
  obtain ⟨r, hr, e⟩ := List.mem_filterMap.mp hq
  cases em : r.man with
  | none => rw [em] at e; cases e
  | some p => rw [em] at e; cases e; exact ((h r hr).m p.1 p.2 em).1
theorem leasts_len (rows : List Row) : (leasts rows).length ≤ rows.length := List.length_filterMap_le _ _
end
end Yk

set_option maxHeartbeats 8000000
namespace Yk
open PySem PySem.Spec PyProof.Rows L2

/-! Any values: which are numbers, amounts, manners. -/
def numD : PyData → Bool
  | .int _ => true
  | _ => false
def amD : PyData → Bool
  | .tuple [.int t, .int b] => decide (0 ≤ t) && (decide (1 ≤ b) && decide (Nat.gcd t.natAbs b.natAbs = 1))
  | _ => false
def leD : PyData → PyData → Bool
  | .tuple [.int a, .int b], .tuple [.int c, .int d] => decide (a * d ≤ c * b)
  | _, _ => false
def pairD : PyData → Bool
  | .tuple [x, y] => amD x && (amD y && leD x y)
  | _ => false
def manD : PyData → Bool
  | .tuple [] => true
  | d => pairD d
def smAmB : PyData → Bool
  | .tuple [.int t, .int b] => decide (t.natAbs < 2 ^ 200) && decide (b.natAbs < 2 ^ 200)
  | _ => true
def smB : PyData → Bool
  | .tuple [x, y] => smAmB x && smAmB y && smAmB (.tuple [x, y])
  | _ => true
theorem numD_int {d : PyData} (h : numD d = true) : ∃ i, d = .int i := by
  cases d with
  | int i => exact ⟨i, rfl⟩
  | _ => exact absurd h (by simp [numD])
theorem amD_1 {x y : PyData} (h : numD x = false) : amD (.tuple [x, y]) = false := by
  cases x with
  | int i => exact absurd h (by simp [numD])
  | _ => rfl
theorem amD_2 {x y : PyData} (h : numD y = false) : amD (.tuple [x, y]) = false := by
  cases x with
  | int i =>
    cases y with
    | int i => exact absurd h (by simp [numD])
    | _ => rfl
  | _ => rfl
theorem amD_s (x : PyData) : amD (.tuple [x]) = false := by cases x <;> rfl
theorem amD_l (x y z : PyData) (t : List PyData) : amD (.tuple (x :: y :: z :: t)) = false := by cases x <;> cases y <;> rfl
theorem amD_rat {d : PyData} (h : amD d = true) : ∃ p : Rat, 0 ≤ p ∧ d = .tuple [.int p.num, .int (p.den : Int)] := by
  unfold amD at h
  split at h
  · rename_i t b
    simp only [Bool.and_eq_true, decide_eq_true_eq] at h
    obtain ⟨h1, h2, h3⟩ := h
    have e : ((b.toNat : Nat) : Int) = b := by omega
    have hc : t.natAbs.Coprime b.toNat := by
      have : b.toNat = b.natAbs := by omega
      rw [this]
      exact h3
    exact ⟨⟨t, b.toNat, by omega, hc⟩, Rat.num_nonneg.mp h1, by show PyData.tuple [.int t, .int b] = .tuple [.int t, .int ((b.toNat : Nat) : Int)]; rw [e]⟩
  · cases h
theorem smAm_sz {p : Rat} (h : smAmB (.tuple [.int p.num, .int (p.den : Int)]) = true) : Sz 200 p := by
  simp only [smAmB, Bool.and_eq_true, decide_eq_true_eq] at h
  exact ⟨h.1, by simpa using h.2⟩
theorem leD_rat {p q : Rat} : leD (.tuple [.int p.num, .int (p.den : Int)]) (.tuple [.int q.num, .int (q.den : Int)]) = decide (p ≤ q) := by
  show decide (p.num * (q.den : Int) ≤ q.num * (p.den : Int)) = decide (p ≤ q)
  rw [Bool.eq_iff_iff, decide_eq_true_iff, decide_eq_true_iff, Rat.le_iff]
theorem manD_eq (d : PyData) : manD d = (pairD d || (match d with | .tuple [] => true | _ => false)) := by
  unfold manD
  split
  · rfl
  · rename_i h
    cases d with
    | tuple ds => cases ds with
      | nil => exact absurd rfl h
      | cons x r => show _ = (pairD _ || false); rw [Bool.or_false]
    | _ => show _ = (pairD _ || false); rw [Bool.or_false]
section
variable {K : PySem.W.Frag} {H H1 : Hp}
mutual
theorem dpx0 (e : Ext [] H H1) : ∀ {v : V} {d : PyData}, Dp K H v d → Dp K H1 v d
  | _, _, .non => .non
  | _, _, .bl b => .bl b
  | _, _, .int i => .int i
  | _, _, .str z => .str z
  | _, _, .lst h g => .lst (lst0 e h) (dpAllx0 e g)
  | _, _, .tup h g => .tup (tup0 e h) (dpAllx0 e g)
theorem dpAllx0 (e : Ext [] H H1) : ∀ {vs : List V} {ds : List PyData}, DpAll K H vs ds → DpAll K H1 vs ds
  | _, _, .nil => .nil
  | _, _, .cons h g => .cons (dpx0 e h) (dpAllx0 e g)
end
end
section
variable {K : PySem.W.Frag} {H : Hp} {Q : VK}
theorem dp_rat {v : V} {p : Rat} (h : Dp K H v (.tuple [.int p.num, .int (p.den : Int)])) : Am K H v p := by
  cases h with
  | tup h g =>
    cases g with
    | cons a g =>
      cases a
      cases g with
      | cons b g =>
        cases b
        cases g
        exact ⟨_, rfl, h⟩
theorem len_ne {n : Nat} {k : Int} (h : (n : Int) ≠ k) : (!decide (V.int (n : Int) = V.int k)) = true := by rw [len_not h]; rfl
theorem r_lcT {a : Addr} {xs : List V} {g : TG} {tt : TT} {te : TE} {vs : List Nat} {σ : L2.St} {D : Addr} {Qd : Hp → Prop} (Pv : Nat → Hp → Prop) (h0 : Pv 0 (upd H D (.lst []))) (hl : ∀ i H, i ≤ xs.length → Pv i H → SqT K H a xs)
    (hs : ∀ i x H, xs[i]? = some x → Pv i H → g x (wipe σ vs) H fun σ2 H2 => wipe σ2 vs = wipe σ vs ∧ tt σ2 H2 fun b H3 =>
      if b = true then te σ2 H3 fun y H4 => ∃ acc, H4 D = some (.lst acc) ∧ acc.length < sizeLine ∧ Pv (i + 1) (upd H4 D (.lst (acc ++ [y]))) else Pv (i + 1) H3) (hd : ∀ H, Pv xs.length H → Qd H) :
    ∃ W : Nat → Nat → Hp → Prop, (∃ m, W 0 m (upd H D (.lst []))) ∧ ∀ i m H, W i m H →
      ((Itt K a).stop i H ∧ Qd H) ∨ ((Itt K a).go i H ∧ ∃ Nx : Hp → Prop, (∀ H', Nx H' → ∃ m', m' < m ∧ W (i + 1) m' H') ∧ ∀ x H', (Itt K a).yld i H x H' → g x (wipe σ vs) H' fun σ2 H2 => wipe σ2 vs = wipe σ vs ∧ tt σ2 H2 fun b H3 =>
        if b = true then te σ2 H3 fun y H4 => ∃ acc, H4 D = some (.lst acc) ∧ acc.length < sizeLine ∧ Nx (upd H4 D (.lst (acc ++ [y]))) else Nx H3) :=
  lc_tup (Qd := Qd) Pv h0 hl hs hd
end
section
variable {P : Program} {w : World} {K : PySem.W.Frag} {mg : Str → Option Value} {base : Heap} {f : Addr} {fd : FuncData}
def spIsNumD (K : PySem.W.Frag) : Sp := fun vs H Q _ => ∃ (v : V) (d : PyData), vs = [v] ∧ Dp K H v d ∧ Q (.bl (numD d)) H
abbrev s_is_number : Stmt := top 2
theorem c_is_number : FnScope ["value"] ["value"] (defScope s_is_number) := ⟨rfl, rfl, rfl, by decide +kernel, rfl, by decide +kernel, by decide +kernel⟩
theorem f_is_number (F : FunD K "is_number" "is_number" (defArgs s_is_number) (defBody s_is_number) (defScope s_is_number) [] [] f fd) (hm : mg "is_number" = some (.ref f)) (T : Bt mg) : Fn P w K mg base 1 "is_number" (spIsNumD K) := by
  refine fn_def F hm c_is_number (fun vs H Q E h => ?_) (fun _ _ _ _ _ _ us hl => match us, hl with | [_], _ => rfl) (fun cdv A outer s H vs Q E hr h => ?_)
  · obtain ⟨v, d, rfl, _⟩ := h
    rfl
  · obtain ⟨v, d, rfl, hd, k⟩ := h
    have nd := c_is_number.nd
    refine ⟨_, (pss_one (ps_ret (pe_and (pe_callB call_isi (by rfl) T.isinstance (by decide +kernel) (pa_cons (pv 0) (pa_cons (pe_bltn (v := .ty "int") (by rfl) T.int (by decide +kernel) rfl) pa_nil))) (pe_one (pe_not (pe_callB call_isi (by rfl) T.isinstance (by decide +kernel) (pa_cons (pv 0) (pa_cons (pe_bltn (v := .ty "bool") (by rfl) T.bool (by decide +kernel) rfl) pa_nil)))))))), ?_⟩
    show (_ : TS) _ [some _] _
    try dsimp only [cxOf, Cx.nox]
    cases hd with
    | non => walk_at "run"; exact k
    | bl b => walk_at "run"; exact k
    | int i => walk_at "run"; exact k
    | str x => walk_at "run"; exact k
    | lst h g => walk_at "run"; exact k
    | tup h g => walk_at "run"; exact k
def spIsAmD (K : PySem.W.Frag) : Sp := fun vs H Q _ => ∃ (v : V) (d : PyData), vs = [v] ∧ Dp K H v d ∧ Q (.bl (amD d)) H
abbrev s_is_amount : Stmt := top 5
theorem c_is_amount : FnScope ["value", "top", "bottom"] ["value"] (defScope s_is_amount) := ⟨rfl, rfl, rfl, by decide +kernel, rfl, by decide +kernel, by decide +kernel⟩
theorem f_is_amount (F : FunD K "is_amount" "is_amount" (defArgs s_is_amount) (defBody s_is_amount) (defScope s_is_amount) [] [] f fd) (hm : mg "is_amount" = some (.ref f)) (T : Bg mg) (Fis_number : Fn P w K mg base 1 "is_number" (spIsNumD K)) : Fn P w K mg base 2 "is_amount" (spIsAmD K) := by
  refine fn_def F hm c_is_amount (fun vs H Q E h => ?_) (fun _ _ _ _ _ _ us hl => match us, hl with | [_], _ => rfl) (fun cdv A outer s H vs Q E hr h => ?_)
  · obtain ⟨v, d, rfl, _⟩ := h
    rfl
  · obtain ⟨v, d, rfl, hd, k⟩ := h
    have nd := c_is_amount.nd
    refine ⟨_, (pss_cons (ps_if (PW.pt (pw_or (pt_not (pt_val (pe_callB call_isi (by rfl) T.isinstance (by decide +kernel) (pa_cons (pv 0) (pa_cons (pe_bltn (v := .ty "tuple") (by rfl) T.tuple (by decide +kernel) rfl) pa_nil))))) (pw_or1 (pt_cmpR op_ne (pe_callB cr_len (by rfl) T.len (by decide +kernel) (pa_cons (pv 0) pa_nil)) pe_int (nomark _)))))
        (pss_one (ps_ret pe_bl))
        pss_nil)
      (pss_cons (ps_asg (pv 0) (pg_tup rfl (pgs_cons (pg_name (i := 1) nd rfl (by first | exact Or.inl rfl | exact Or.inr rfl)) (pgs_cons (pg_name (i := 2) nd rfl (by first | exact Or.inl rfl | exact Or.inr rfl)) pgs_nil))))
      (pss_cons (ps_if (PW.pt (pw_or (pt_not (pt_val (pe_fn Fis_number (hr.mono (by decide)) (pa_cons (pv 1) pa_nil)))) (pw_or1 (pt_not (pt_val (pe_fn Fis_number (hr.mono (by decide)) (pa_cons (pv 2) pa_nil)))))))
        (pss_one (ps_ret pe_bl))
        pss_nil)
      (pss_one (ps_ret (pe_and (pe_cmpR op_ge (pv 1) pe_int (nomark _)) (pe_and (pe_cmpR op_ge (pv 2) pe_int (nomark _)) (pe_one (pe_cmpR op_eq (pe_callBfun cr_gcd (by rfl) T.gcd (pa_cons (pv 1) (pa_cons (pv 2) pa_nil))) pe_int (nomark _)))))))))), ?_⟩
    show (_ : TS) _ [some _, none, none] _
    try dsimp only [cxOf, Cx.nox]
    cases hd with
    | non => walk_at "run"; exact k
    | bl b => walk_at "run"; exact k
    | int i => walk_at "run"; exact k
    | str x => walk_at "run"; exact k
    | lst h g => walk_at "run"; exact k
    | tup h g =>
      cases g with
      | nil => walk_at "run"; exact k
      | cons h1 g =>
        cases g with
        | nil => rw [amD_s] at k; walk_at "run"; exact k
        | cons h2 g =>
          cases g with
          | cons h3 g =>
            rw [amD_l] at k
            walk_at "run"
            exact k
          | nil =>
            rename_i v1 d1 v2 d2
            walk_at "run"
            refine ⟨v1, d1, rfl, h1, ?_⟩
            walk_at "go"
            cases hn1 : numD d1 with
            | false =>
              rw [amD_1 hn1] at k
              walk_at "run"
              exact k
            | true =>
              obtain ⟨i, rfl⟩ := numD_int hn1
              cases h1
              walk_at "run"
              refine ⟨v2, d2, rfl, h2, ?_⟩
              walk_at "go"
              cases hn2 : numD d2 with
              | false =>
                rw [amD_2 hn2] at k
                walk_at "run"
                exact k
              | true =>
                obtain ⟨j, rfl⟩ := numD_int hn2
                cases h2
                have e : amD (.tuple [.int i, .int j]) = (decide (0 ≤ i) && (decide (1 ≤ j) && decide (Nat.gcd i.natAbs j.natAbs = 1))) := rfl
                rw [e] at k
                walk_at "run"
                refine r_dec (fun h0 => ?_) (fun h0 => ?_)
                · walk_at "run"
                  refine r_dec (fun h5 => ?_) (fun h5 => ?_)
                  · walk_at "run"
                    have e2 : decide (V.int ((Nat.gcd i.natAbs j.natAbs : Nat) : Int) = V.int 1) = decide (Nat.gcd i.natAbs j.natAbs = 1) := by
                      rw [Bool.eq_iff_iff, decide_eq_true_iff, decide_eq_true_iff]
                      constructor
                      · intro z; have := V.int.inj z; omega
                      · intro z; rw [z]; rfl
                    rw [e2]
                    rw [decide_eq_true h0, decide_eq_true h5] at k
                    exact k
                  · rw [decide_eq_true h0, decide_eq_false h5] at k
                    exact k
                · rw [decide_eq_false h0] at k
                  exact k
def spIsMan (K : PySem.W.Frag) : Sp := fun vs H Q _ => ∃ (v : V) (d : PyData), vs = [v] ∧ Dp K H v d ∧ smB d = true ∧ Q (.bl (manD d)) H
theorem pairD_1 {x y : PyData} (h : amD x = false) : pairD (.tuple [x, y]) = false := by show (amD x && (amD y && leD x y)) = false; rw [h]; rfl
theorem pairD_2 {x y : PyData} (h : amD y = false) : pairD (.tuple [x, y]) = false := by show (amD x && (amD y && leD x y)) = false; rw [h]; cases amD x <;> rfl
theorem pairD_3 {x y : PyData} (h : amD x = true) (g : amD y = true) : pairD (.tuple [x, y]) = leD x y := by show (amD x && (amD y && leD x y)) = leD x y; rw [h, g]; rfl
abbrev s_is_manner : Stmt := top 14
theorem c_is_manner : FnScope ["value"] ["value"] (defScope s_is_manner) := ⟨rfl, rfl, rfl, by decide +kernel, rfl, by decide +kernel, by decide +kernel⟩
theorem f_is_manner (F : FunD K "is_manner" "is_manner" (defArgs s_is_manner) (defBody s_is_manner) (defScope s_is_manner) [] [] f fd) (hm : mg "is_manner" = some (.ref f)) (T : Bt mg) (Fis_amount : Fn P w K mg base 2 "is_amount" (spIsAmD K)) (Fcompare : Fn P w K mg base 1 "compare" (spCompare K)) : FnOk P w K mg base CX0 3 f fd ["value"] (spIsMan K) := by
  refine ok_def F c_is_manner (fun vs H Q E h => ?_) (fun cdv A outer s H vs Q E hr h => ?_)
  · obtain ⟨v, d, rfl, _⟩ := h
    rfl
  · obtain ⟨v, d, rfl, hd, hsm, k⟩ := h
    have nd := c_is_manner.nd
    refine ⟨_, (pss_cons (ps_if (pt_not (pt_val (pe_callB call_isi (by rfl) T.isinstance (by decide +kernel) (pa_cons (pv 0) (pa_cons (pe_bltn (v := .ty "tuple") (by rfl) T.tuple (by decide +kernel) rfl) pa_nil)))))
        (pss_one (ps_ret pe_bl))
        pss_nil)
      (pss_cons (ps_if (pt_cmpR op_eq (pe_callB cr_len (by rfl) T.len (by decide +kernel) (pa_cons (pv 0) pa_nil)) pe_int (nomark _))
        (pss_one (ps_ret pe_bl))
        pss_nil)
      (pss_cons (ps_if (PW.pt (pw_or (pt_cmpR op_ne (pe_callB cr_len (by rfl) T.len (by decide +kernel) (pa_cons (pv 0) pa_nil)) pe_int (nomark _)) (pw_or (pt_not (pt_val (pe_fn Fis_amount (hr.mono (by decide)) (pa_cons (pe_ix ix_tup (pv 0) pe_int (fun _ _ => rfl)) pa_nil)))) (pw_or1 (pt_not (pt_val (pe_fn Fis_amount (hr.mono (by decide)) (pa_cons (pe_ix ix_tup (pv 0) pe_int (fun _ _ => rfl)) pa_nil))))))))
        (pss_one (ps_ret pe_bl))
        pss_nil)
      (pss_one (ps_ret (pe_cmpR op_le (pe_fn Fcompare (hr.mono (by decide)) (pa_cons (pe_ix ix_tup (pv 0) pe_int (fun _ _ => rfl)) (pa_cons (pe_ix ix_tup (pv 0) pe_int (fun _ _ => rfl)) pa_nil))) pe_int (nomark _))))))), ?_⟩
    show (_ : TS) _ [some _] _
    try dsimp only [cxOf, Cx.nox]
    cases hd with
    | non => walk_at "run"; exact k
    | bl b => walk_at "run"; exact k
    | int i => walk_at "run"; exact k
    | str x => walk_at "run"; exact k
    | lst h g => walk_at "run"; exact k
    | tup h g =>
      cases g with
      | nil => walk_at "run"; exact k
      | cons h1 g =>
        cases g with
        | nil => walk_at "run"; exact k
        | cons h2 g =>
          cases g with
          | cons h3 g =>
            walk_at "run"
            exact k
          | nil =>
            rename_i v1 d1 v2 d2
            have k : Q (.bl (pairD (.tuple [d1, d2]))) H := k
            walk_at "run"
            refine ⟨v1, d1, rfl, h1, ?_⟩
            walk_at "go"
            cases ha1 : amD d1 with
            | false =>
              rw [pairD_1 ha1] at k
              walk_at "run"
              exact k
            | true =>
              walk_at "run"
              refine ⟨v2, d2, rfl, h2, ?_⟩
              walk_at "go"
              cases ha2 : amD d2 with
              | false =>
                rw [pairD_2 ha2] at k
                walk_at "run"
                exact k
              | true =>
                rw [pairD_3 ha1 ha2] at k
                obtain ⟨p, p0, rfl⟩ := amD_rat ha1
                obtain ⟨q, q0, rfl⟩ := amD_rat ha2
                have hs : smAmB (.tuple [.int p.num, .int (p.den : Int)]) = true ∧ smAmB (.tuple [.int q.num, .int (q.den : Int)]) = true := by
                  simp only [smB, Bool.and_eq_true] at hsm
                  exact hsm.1
                walk_at "run"
                refine k_cmp (dp_rat h1) (dp_rat h2) ((smAm_sz hs.1).mono (by decide)) ((smAm_sz hs.2).mono (by decide)) ?_
                rw [leD_rat] at k
                have e : decide (cmpQ p q ≤ 0) = decide (p ≤ q) := by
                  rw [Bool.eq_iff_iff, decide_eq_true_iff, decide_eq_true_iff]
                  exact cmpQ_le
                walk_at "run"
                rw [e]
                exact k
def spLIsAm (K : PySem.W.Frag) : Sp := fun vs H Q _ => ∃ (v : V) (d : PyData), vs = [v] ∧ Dp K H v d ∧ smAmB d = true ∧ ∀ H', Ext [] H H' → Q (.bl (amD d)) H'
theorem gcd_low {a b : Nat} (hb : 0 < b) : (a / Nat.gcd a b = a ∧ b / Nat.gcd a b = b) ↔ Nat.gcd a b = 1 := by
  constructor
  · rintro ⟨_, h⟩
    have hg : 0 < Nat.gcd a b := Nat.gcd_pos_of_pos_right a hb
    refine Nat.le_antisymm (Nat.not_lt.mp fun z => ?_) hg
    have := Nat.div_lt_self hb z
    omega
  · intro h
    rw [h, Nat.div_one, Nat.div_one]
    exact ⟨rfl, rfl⟩
abbrev s_law_is_amount : Stmt := top 29
theorem c_law_is_amount : FnScope ["_law_x", "_law_part"] ["_law_x"] (defScope s_law_is_amount) := ⟨rfl, rfl, rfl, by decide +kernel, rfl, by decide +kernel, by decide +kernel⟩
theorem f_law_is_amount (F : FunD K "_law_is_amount" "_law_is_amount" (defArgs s_law_is_amount) (defBody s_law_is_amount) (defScope s_law_is_amount) [] [] f fd) (hm : mg "_law_is_amount" = some (.ref f)) (T : Bt mg) (F_law_pair : Fn P w K mg base 1 "_law_pair" (spPair K)) : Fn P w K mg base 2 "_law_is_amount" (spLIsAm K) := by
  refine fn_def F hm c_law_is_amount (fun vs H Q E h => ?_) (fun _ _ _ _ _ _ us hl => match us, hl with | [_], _ => rfl) (fun cdv A outer s H vs Q E hr h => ?_)
  · obtain ⟨v, d, rfl, _⟩ := h
    rfl
  · obtain ⟨v, d, rfl, hd, hsm, k⟩ := h
    have nd := c_law_is_amount.nd
    refine ⟨_, (pss_cons (ps_if (PW.pt (pw_or (pt_not (pt_val (pe_callB call_isi (by rfl) T.isinstance (by decide +kernel) (pa_cons (pv 0) (pa_cons (pe_bltn (v := .ty "tuple") (by rfl) T.tuple (by decide +kernel) rfl) pa_nil))))) (pw_or1 (pt_cmpR op_ne (pe_callB cr_len (by rfl) T.len (by decide +kernel) (pa_cons (pv 0) pa_nil)) pe_int (nomark _)))))
        (pss_one (ps_ret pe_bl))
        pss_nil)
      (pss_cons (ps_if (pt_val (pe_callB (cr_any rfl) (by rfl) T.any (by decide +kernel) (pa_cons (pe_lc (own := [("_law_part", 1)]) (g := gName 1) rfl nd (pi_tup (pv 0)) (blkOk_by (N := ["_law_x", "_law_part"]) (sc := defScope s_law_is_amount) (by decide +kernel)) (fun _ _ _ _ _ => pg_name (i := 1) nd rfl (Or.inl rfl)) (fun _ _ _ _ _ => pts_nil) (fun _ _ _ _ _ => (pe_or (pe_callB call_isi (by rfl) T.isinstance (by decide +kernel) (pa_cons (pv 1) (pa_cons (pe_bltn (v := .ty "bool") (by rfl) T.bool (by decide +kernel) rfl) pa_nil)) : PE _ _ (tCB (rIsi K) _)) (pe_one (pe_not (pe_callB call_isi (by rfl) T.isinstance (by decide +kernel) (pa_cons (pv 1) (pa_cons (pe_bltn (v := .ty "int") (by rfl) T.int (by decide +kernel) rfl) pa_nil)) : PE _ _ (tCB (rIsi K) _))))))) pa_nil)))
        (pss_one (ps_ret pe_bl))
        pss_nil)
      (pss_one (ps_ret (pe_and (pe_cmpR op_ge (pe_ix ix_tup (pv 0) pe_int (fun _ _ => rfl)) pe_int (nomark _)) (pe_and (pe_cmpR op_ge (pe_ix ix_tup (pv 0) pe_int (fun _ _ => rfl)) pe_int (nomark _)) (pe_one (pe_cmpR (op_eqD hr.units) (pe_fn F_law_pair (hr.mono (by decide)) (pa_cons (pe_ix ix_tup (pv 0) pe_int (fun _ _ => rfl)) (pa_cons (pe_ix ix_tup (pv 0) pe_int (fun _ _ => rfl)) pa_nil))) (pv 0) (nomark _))))))))), ?_⟩
    show (_ : TS) _ [some _, none] _
    try dsimp only [cxOf, Cx.nox]
    have k0 := k H Ext.refl
    cases hd with
    | non => walk_at "run"; exact k0
    | bl b => walk_at "run"; exact k0
    | int i => walk_at "run"; exact k0
    | str x => walk_at "run"; exact k0
    | lst h g => walk_at "run"; exact k0
    | tup h g =>
      cases g with
      | nil => walk_at "run"; exact k0
      | cons h1 g =>
        cases g with
        | nil => rw [amD_s] at k0; walk_at "run"; exact k0
        | cons h2 g =>
          cases g with
          | cons h3 g =>
            rw [amD_l] at k0
            walk_at "run"
            exact k0
          | nil =>
            rename_i a v1 d1 v2 d2
            clear k0
            walk_at "run"
            refine ⟨a, rfl, ⟨_, h⟩, fun D hD => ?_⟩
            have hnum : ∀ {x : V} {e : PyData} {H1 : Hp} {R : VK}, Dp K H x e → Ext [] H H1 → (R (.bl (!numD e)) H1) → True := fun _ _ _ => trivial
            refine r_lcT (xs := [v1, v2]) (fun i H1 => H1 D = some (.lst (([!numD d1, !numD d2].take i).map V.bl)) ∧ Ext [] H H1) ⟨upd_same, Ext.refl.new hD⟩ ?_ ?_ ?_
            · rintro i H1 hi ⟨_, n1⟩
              exact tup0 n1 h
            · rintro i x H1 hx ⟨hb1, n1⟩
              obtain ⟨e, hde, hi, htk⟩ : ∃ e, Dp K H x e ∧ i ≤ 1 ∧ [!numD d1, !numD d2].take (i + 1) = [!numD d1, !numD d2].take i ++ [!numD e] := by
                match i, hx with
                | 0, hx => cases hx; exact ⟨d1, h1, by decide, rfl⟩
                | 1, hx => cases hx; exact ⟨d2, h2, by decide, rfl⟩
                | i + 2, hx => cases hx
              have hlen : ((([!numD d1, !numD d2].take i)).map V.bl).length ≤ 4000 := by rw [List.length_map, List.length_take]; simp; omega
              have fin : ∃ acc, H1 D = some (.lst acc) ∧ acc.length < sizeLine ∧ (upd H1 D (.lst (acc ++ [V.bl (!numD e)]))) D = some (.lst (([!numD d1, !numD d2].take (i + 1)).map V.bl)) ∧ Ext [] H (upd H1 D (.lst (acc ++ [V.bl (!numD e)]))) :=
                ⟨_, hb1, Nat.lt_of_le_of_lt hlen (by decide), by rw [htk, List.map_append]; exact upd_same, n1.own hD⟩
              clear hb1 hlen htk hnum
              cases hde with
              | non => walk_at "run"; refine ⟨rfl, ?_⟩; walk_at "run"; exact fin
              | bl b => walk_at "run"; refine ⟨rfl, ?_⟩; walk_at "run"; exact fin
              | int i => walk_at "run"; refine ⟨rfl, ?_⟩; walk_at "run"; exact fin
              | str x => walk_at "run"; refine ⟨rfl, ?_⟩; walk_at "run"; exact fin
              | lst q g =>
                have q1 := lst0 n1 q
                walk_at "run"; refine ⟨rfl, ?_⟩; walk_at "run"; exact fin
              | tup q g =>
                have q1 := tup0 n1 q
                walk_at "run"; refine ⟨rfl, ?_⟩; walk_at "run"; exact fin
            · rintro H1 ⟨hb1, n1⟩
              clear hnum
              have h' := tup0 n1 h
              walk_at "run"
              refine r_any (bs := [!numD d1, !numD d2]) (.inl (.inl hb1)) ?_
              cases hn1 : numD d1 with
              | false =>
                have k1 := k H1 n1
                rw [amD_1 hn1] at k1
                walk_at "run"
                exact k1
              | true =>
                cases hn2 : numD d2 with
                | false =>
                  have k1 := k H1 n1
                  rw [amD_2 hn2] at k1
                  walk_at "run"
                  exact k1
                | true =>
                  obtain ⟨i, rfl⟩ := numD_int hn1
                  obtain ⟨j, rfl⟩ := numD_int hn2
                  cases h1
                  cases h2
                  have e : amD (.tuple [.int i, .int j]) = (decide (0 ≤ i) && (decide (1 ≤ j) && decide (Nat.gcd i.natAbs j.natAbs = 1))) := rfl
                  rw [e] at k
                  have hs : i.natAbs < 2 ^ 200 ∧ j.natAbs < 2 ^ 200 := by
                    simp only [smAmB, Bool.and_eq_true, decide_eq_true_eq] at hsm
                    exact hsm
                  have h2k : (2 : Nat) ^ 200 ≤ 2 ^ 8900 := Nat.pow_le_pow_right (by decide) (by decide)
                  walk_at "run"
                  refine r_dec (fun h0 => ?_) (fun h0 => ?_)
                  · walk_at "run"
                    refine r_dec (fun h5 => ?_) (fun h5 => ?_)
                    · walk_at "run"
                      have ei : ((i.toNat : Nat) : Int) = i := by omega
                      have ej : ((j.toNat : Nat) : Int) = j := by omega
                      have ei2 : i.natAbs = i.toNat := by omega
                      have ej2 : j.natAbs = j.toNat := by omega
                      rw [ei2] at hs k
                      rw [ej2] at hs k
                      refine ⟨i.toNat, j.toNat, by rw [ei, ej], by omega, Nat.lt_of_lt_of_le hs.1 h2k, Nat.lt_of_lt_of_le hs.2 h2k, fun v3 H3 n3 a3 => ?_⟩
                      walk_at "run"
                      refine ⟨_, _, dp_am a3, .tup (tup0 n3 h') (.cons (.int i) (.cons (.int j) .nil)), rfl, rfl, ?_⟩
                      have e3 : PyData.eqv (.tuple [.int (mkRat ((i.toNat : Nat) : Int) j.toNat).num, .int ((mkRat ((i.toNat : Nat) : Int) j.toNat).den : Int)]) (.tuple [.int i, .int j]) = decide (Nat.gcd i.toNat j.toNat = 1) := by
                        obtain ⟨m1, m2⟩ := mk_parts i.toNat j.toNat (by omega)
                        rw [Bool.eq_iff_iff, decide_eq_true_iff, ← gcd_low (by omega), m1, m2]
                        generalize i.toNat / Nat.gcd i.toNat j.toNat = qa
                        generalize j.toNat / Nat.gcd i.toNat j.toNat = qb
                        simp [PyData.eqv, PyData.eqvAll]
                        omega
                      rw [e3]
                      have k3 := k H3 (n1.trans n3)
                      rw [decide_eq_true h0, decide_eq_true h5] at k3
                      exact k3
                    · have k3 := k H1 n1
                      rw [decide_eq_true h0, decide_eq_false h5] at k3
                      exact k3
                  · have k3 := k H1 n1
                    rw [decide_eq_false h0] at k3
                    exact k3
def spLIsPair (K : PySem.W.Frag) : Sp := fun vs H Q _ => ∃ (v : V) (d : PyData), vs = [v] ∧ Dp K H v d ∧ smB d = true ∧ ∀ H', Ext [] H H' → Q (.bl (pairD d)) H'
abbrev s_law_is_pair : Stmt := top 30
theorem c_law_is_pair : FnScope ["_law_x"] ["_law_x"] (defScope s_law_is_pair) := ⟨rfl, rfl, rfl, by decide +kernel, rfl, by decide +kernel, by decide +kernel⟩
theorem f_law_is_pair (F : FunD K "_law_is_pair" "_law_is_pair" (defArgs s_law_is_pair) (defBody s_law_is_pair) (defScope s_law_is_pair) [] [] f fd) (hm : mg "_law_is_pair" = some (.ref f)) (T : Bt mg) (F_law_is_amount : Fn P w K mg base 2 "_law_is_amount" (spLIsAm K)) (F_law_more : Fn P w K mg base 1 "_law_more" (spMore K)) : Fn P w K mg base 3 "_law_is_pair" (spLIsPair K) := by
  refine fn_def F hm c_law_is_pair (fun vs H Q E h => ?_) (fun _ _ _ _ _ _ us hl => match us, hl with | [_], _ => rfl) (fun cdv A outer s H vs Q E hr h => ?_)
  · obtain ⟨v, d, rfl, _⟩ := h
    rfl
  · obtain ⟨v, d, rfl, hd, hsm, k⟩ := h
    have nd := c_law_is_pair.nd
    refine ⟨_, (pss_cons (ps_if (PW.pt (pw_or (pt_not (pt_val (pe_callB call_isi (by rfl) T.isinstance (by decide +kernel) (pa_cons (pv 0) (pa_cons (pe_bltn (v := .ty "tuple") (by rfl) T.tuple (by decide +kernel) rfl) pa_nil))))) (pw_or (pt_cmpR op_ne (pe_callB cr_len (by rfl) T.len (by decide +kernel) (pa_cons (pv 0) pa_nil)) pe_int (nomark _)) (pw_or (pt_not (pt_val (pe_fn F_law_is_amount (hr.mono (by decide)) (pa_cons (pe_ix ix_tup (pv 0) pe_int (fun _ _ => rfl)) pa_nil)))) (pw_or1 (pt_not (pt_val (pe_fn F_law_is_amount (hr.mono (by decide)) (pa_cons (pe_ix ix_tup (pv 0) pe_int (fun _ _ => rfl)) pa_nil)))))))))
        (pss_one (ps_ret pe_bl))
        pss_nil)
      (pss_one (ps_ret (pe_not (pe_fn F_law_more (hr.mono (by decide)) (pa_cons (pe_ix ix_tup (pv 0) pe_int (fun _ _ => rfl)) (pa_cons (pe_ix ix_tup (pv 0) pe_int (fun _ _ => rfl)) pa_nil))))))), ?_⟩
    show (_ : TS) _ [some _] _
    try dsimp only [cxOf, Cx.nox]
    have k0 := k H Ext.refl
    cases hd with
    | non => walk_at "run"; exact k0
    | bl b => walk_at "run"; exact k0
    | int i => walk_at "run"; exact k0
    | str x => walk_at "run"; exact k0
    | lst h g => walk_at "run"; exact k0
    | tup h g =>
      cases g with
      | nil => walk_at "run"; exact k0
      | cons h1 g =>
        cases g with
        | nil => walk_at "run"; exact k0
        | cons h2 g =>
          cases g with
          | cons h3 g =>
            walk_at "run"
            exact k0
          | nil =>
            rename_i a v1 d1 v2 d2
            clear k0
            have hs : smAmB d1 = true ∧ smAmB d2 = true := by
              simp only [smB, Bool.and_eq_true] at hsm
              exact hsm.1
            walk_at "run"
            refine ⟨v1, d1, rfl, h1, hs.1, fun H1 n1 => ?_⟩
            have h' := tup0 n1 h
            walk_at "go"
            cases ha1 : amD d1 with
            | false =>
              have k1 := k H1 n1
              rw [pairD_1 ha1] at k1
              walk_at "run"
              exact k1
            | true =>
              walk_at "run"
              refine ⟨v2, d2, rfl, dpx0 n1 h2, hs.2, fun H2 n2 => ?_⟩
              have h'' := tup0 n2 h'
              have n12 := n1.trans n2
              walk_at "go"
              cases ha2 : amD d2 with
              | false =>
                have k1 := k H2 n12
                rw [pairD_2 ha2] at k1
                walk_at "run"
                exact k1
              | true =>
                have k1 := k H2 n12
                rw [pairD_3 ha1 ha2] at k1
                obtain ⟨p, p0, rfl⟩ := amD_rat ha1
                obtain ⟨q, q0, rfl⟩ := amD_rat ha2
                walk_at "run"
                refine ⟨v1, v2, p, q, rfl, (dp_rat h1).x0 n12, (dp_rat h2).x0 n12, (smAm_sz hs.1).mono (by decide), (smAm_sz hs.2).mono (by decide), ?_⟩
                rw [leD_rat] at k1
                have e : (!decide (q < p)) = decide (p ≤ q) := by
                  rw [Bool.eq_iff_iff, decide_eq_true_iff, Bool.not_eq_true', decide_eq_false_iff_not]
                  exact Rat.not_lt
                walk_at "run"
                rw [e]
                exact k1
end
end Yk

set_option maxHeartbeats 8000000
namespace Yk
open PySem PySem.Spec PyProof.Rows L2

local macro_rules | `(tactic| walk_at "na") => `(tactic| (intro hq; exact BagAt.ne' (K := ‹PySem.W.Frag›) (by assumption) (by walk_at "bag") (List.mem_singleton.mp hq).symm))
local macro_rules | `(tactic| walk_at "dq") => `(tactic| first
  | exact Dq.non
  | exact Dq.bl _
  | exact Dq.int _
  | exact Dq.str _
  | ((refine' Dq.tup ?h1 ?h2); (case h1 => walk_at "sq"); (case h2 => walk_at "dqs"))
  | ((refine' Dq.lst ?h0 ?h1 ?h2); (case h1 => walk_at "sq"); (case h0 => walk_at "na"); (case h2 => walk_at "dqs")))
local macro_rules | `(tactic| walk_at "dqs") => `(tactic| first
  | exact DqAll.nil
  | ((refine' DqAll.cons ?g1 ?g2); (case g1 => walk_at "dq"); (case g2 => walk_at "dqs")))
/-- what any value may be here -/
def okB (d : PyData) : Bool := smB d && smAmB d
section
variable {K : PySem.W.Frag} {H H1 : Hp}
theorem Dq.b {b : Bag} {v : V} {d : PyData} (hb : BagAt K H b) (e : Ext [b.a] H H1) (h : Dq K [b.a] H v d) : Dq K [b.a] H1 v d := h.x e (fun _ z => z) (bagS hb)
theorem DqAll.b {b : Bag} {v : List V} {d : List PyData} (hb : BagAt K H b) (e : Ext [b.a] H H1) (h : DqAll K [b.a] H v d) : DqAll K [b.a] H1 v d := h.x e (fun _ z => z) (bagS hb)
theorem of_dq {H : Hp} {b : Bag} {l : Addr} {xs : List V} {ds : List PyData} {Q : VK} {E : XK} (hb : BagAt K H b) (hl : SqL K H l xs) (hne : b.a ≠ l) (ha : DqAll K [b.a] H xs ds) (hok : ds.all okB = true) (h0 : 0 < xs.length) (h4 : xs.length ≤ 4000)
    (k : ∀ v d H', Dq K [b.a] H' v d → okB d = true → BagAt K H' b → Ext [b.a] H H' → Q v H') : spOf K [.ref b.a, .ref l] H Q E :=
  ⟨b, l, xs, rfl, hb, hl, hne, h0, h4, fun i v H' hv hb' e => by
    obtain ⟨d, hd, hq⟩ := ha.get hv
    exact k v d H' (hq.b hb e) (List.all_eq_true.mp hok d (List.mem_of_getElem? hd)) hb' e⟩
end
section
variable {P : Program} {w : World} {K : PySem.W.Frag} {mg : Str → Option Value} {base : Heap} {f : Addr} {fd : FuncData}
def spOdd (K : PySem.W.Frag) : Sp := fun vs H Q _ => ∃ (b : Bag), vs = [.ref b.a] ∧ BagAt K H b ∧ ∀ v d H', Dq K [b.a] H' v d → okB d = true → BagAt K H' b → Ext [b.a] H H' → Q v H'
/-- some values in a list -/
structure OddAt (K : PySem.W.Frag) (H H' : Hp) (b : Bag) (n : Nat) (σ : L2.St) : Prop where
  ex : ∃ (p : Addr) (xs : List V) (ds : List PyData), σ = [some (V.ref b.a), some (V.ref p)] ∧ H' p = some (.lst xs) ∧ p ≠ b.a ∧ DqAll K [b.a] H' xs ds ∧ ds.all okB = true ∧ xs.length = n ∧ BagAt K H' b ∧ Ext [] H H'
theorem odd_cat {H H1 H2 : Hp} {b : Bag} {p q : Addr} {xs ys : List V} {ds es : List PyData} {R : VK} (hb : BagAt K H1 b) (e1 : Ext [] H H1) (hp : H1 p = some (.lst xs)) (hx : DqAll K [b.a] H1 xs ds) (ox : ds.all okB = true) (n : Ext [] H1 H2) (hq : H2 q = some (.lst ys)) (hy : DqAll K [b.a] H2 ys es) (oy : es.all okB = true) (hl : xs.length + ys.length ≤ 4000)
    (k : ∀ r H', OddAt K H H' b (xs.length + ys.length) [some (V.ref b.a), some (V.ref r)] → R (.ref r) H') : rCat (.ref p) (.ref q) H2 R := by
  refine ⟨p, q, xs, ys, rfl, rfl, n _ _ hp (fun z => nomatch z), hq, Nat.le_trans hl (by decide), fun r hr => ?_⟩
  have m := (Ext.refl (S := []) (H := H2)).new (o := .lst (xs ++ ys)) hr
  exact k r _ ⟨r, xs ++ ys, ds ++ es, rfl, upd_same, ((hb.x0 n).ne hr).symm, ((hx.x0 n).x0 m).app (hy.x0 m), by rw [List.all_append, ox, oy]; rfl, List.length_append, (hb.x0 n).x0 m, (e1.trans n).trans m⟩
abbrev s_law_odd : Stmt := top 34
theorem c_law_odd : FnScope ["_law_bag_here", "_law_some"] ["_law_bag_here"] (defScope s_law_odd) := ⟨rfl, rfl, rfl, by decide +kernel, rfl, by decide +kernel, by decide +kernel⟩
theorem f_law_odd (F : FunD K "_law_odd" "_law_odd" (defArgs s_law_odd) (defBody s_law_odd) (defScope s_law_odd) [] [] f fd) (hm : mg "_law_odd" = some (.ref f)) (F_law_of : Fn P w K mg base 2 "_law_of" (spOf K)) : Fn P w K mg base 3 "_law_odd" (spOdd K) := by
  refine fn_def F hm c_law_odd (fun vs H Q E h => ?_) (fun _ _ _ _ _ _ us hl => match us, hl with | [_], _ => rfl) (fun cdv A outer s H vs Q E hr h => ?_)
  · obtain ⟨b, rfl, _⟩ := h
    rfl
  · obtain ⟨b, rfl, hb, k⟩ := h
    have nd := c_law_odd.nd
    refine ⟨_, (pss_mid (ps_set (i := 1) nd rfl (by first | exact Or.inl rfl | exact Or.inr rfl) (pe_lst (pa_cons pe_non (pa_cons pe_bl (pa_cons pe_bl (pa_cons pe_int (pa_cons pe_int (pa_cons (pe_un un_neg pe_int) (pa_cons pe_int (pa_cons pe_str (pa_cons pe_str (pa_cons pe_str (pa_cons pe_str (pa_cons (pe_tup pa_nil) (pa_cons (pe_tup (pa_cons pe_int pa_nil)) (pa_cons (pe_tup (pa_cons pe_int (pa_cons pe_int pa_nil))) (pa_cons (pe_tup (pa_cons pe_int (pa_cons pe_int pa_nil))) (pa_cons (pe_lst (pa_cons pe_int (pa_cons pe_int pa_nil))) (pa_cons (pe_tup (pa_cons pe_int (pa_cons pe_int pa_nil))) (pa_cons (pe_tup (pa_cons pe_int (pa_cons pe_int pa_nil))) pa_nil))))))))))))))))))))
      (pss_mid (ps_set (i := 1) nd rfl (by first | exact Or.inl rfl | exact Or.inr rfl) (pe_op op_cat (pv 1) (pe_lst (pa_cons (pe_tup (pa_cons pe_int (pa_cons pe_int pa_nil))) (pa_cons (pe_tup (pa_cons (pe_un un_neg pe_int) (pa_cons pe_int pa_nil))) (pa_cons (pe_tup (pa_cons pe_bl (pa_cons pe_int pa_nil))) (pa_cons (pe_tup (pa_cons pe_int (pa_cons pe_bl pa_nil))) (pa_cons (pe_tup (pa_cons pe_str (pa_cons pe_int pa_nil))) (pa_cons (pe_tup (pa_cons (pe_tup (pa_cons pe_int (pa_cons pe_int pa_nil))) (pa_cons (pe_tup (pa_cons pe_int (pa_cons pe_int pa_nil))) pa_nil))) (pa_cons (pe_tup (pa_cons (pe_tup (pa_cons pe_int (pa_cons pe_int pa_nil))) (pa_cons (pe_tup (pa_cons pe_int (pa_cons pe_int pa_nil))) pa_nil))) (pa_cons (pe_tup (pa_cons pe_non (pa_cons pe_non pa_nil))) pa_nil)))))))))))
      (pss_mid (ps_set (i := 1) nd rfl (by first | exact Or.inl rfl | exact Or.inr rfl) (pe_op op_cat (pv 1) (pe_lst (pa_cons (pe_tup (pa_cons pe_int (pa_cons pe_int (pa_cons pe_int pa_nil)))) (pa_cons (pe_lst pa_nil) (pa_cons (pe_lst (pa_cons (pe_tup pa_nil) pa_nil)) (pa_cons (pe_lst (pa_cons (pe_tup (pa_cons pe_int (pa_cons pe_int pa_nil))) (pa_cons (pe_tup (pa_cons pe_int (pa_cons pe_int pa_nil))) pa_nil))) (pa_cons (pe_tup (pa_cons (pe_tup (pa_cons pe_int (pa_cons pe_int pa_nil))) (pa_cons (pe_lst (pa_cons pe_int (pa_cons pe_int pa_nil))) pa_nil))) (pa_cons (pe_tup (pa_cons (pe_tup (pa_cons pe_int (pa_cons pe_int pa_nil))) pa_nil)) (pa_cons (pe_tup (pa_cons (pe_tup (pa_cons (pe_tup (pa_cons pe_int (pa_cons pe_int pa_nil))) (pa_cons pe_int pa_nil))) (pa_cons (pe_lst (pa_cons pe_int (pa_cons (pe_tup (pa_cons pe_non pa_nil)) pa_nil))) pa_nil))) (pa_cons (pe_un un_neg pe_int) pa_nil)))))))))))
      (pss_mid (ps_set (i := 1) nd rfl (by first | exact Or.inl rfl | exact Or.inr rfl) (pe_op op_cat (pv 1) (pe_lst (pa_cons (pe_tup (pa_cons pe_int (pa_cons (pe_un un_neg pe_int) pa_nil))) (pa_cons (pe_tup (pa_cons pe_int (pa_cons pe_int pa_nil))) (pa_cons (pe_tup (pa_cons (pe_tup (pa_cons pe_int (pa_cons pe_int pa_nil))) (pa_cons (pe_tup (pa_cons pe_int (pa_cons pe_int pa_nil))) pa_nil))) (pa_cons (pe_tup (pa_cons (pe_tup (pa_cons pe_int (pa_cons pe_int pa_nil))) (pa_cons (pe_tup (pa_cons pe_int (pa_cons pe_int pa_nil))) pa_nil))) (pa_cons pe_str (pa_cons pe_str (pa_cons (pe_tup (pa_cons pe_str pa_nil)) (pa_cons (pe_lst (pa_cons pe_str pa_nil)) (pa_cons (pe_tup (pa_cons pe_int (pa_cons pe_int pa_nil))) pa_nil))))))))))))
      (pss_one (ps_ret (pe_fn F_law_of (hr.mono (by decide)) (pa_cons (pv 0) (pa_cons (pv 1) pa_nil))))))))), ?_⟩
    show (_ : TS) _ [some _, none] _
    try dsimp only [cxOf, Cx.nox]
    refine r_mid (fun σ' H' => OddAt K H H' b 18 σ') ?_ ?_
    · walk_at "go"
      refine ⟨_, _, [.none, .bool true, .bool false, .int 0, .int 1, .int (-1), .int 7, .str (Str.ofString ""), .str (Str.ofString "a"), .str (Str.ofString "4"), .str (Str.ofString "1/2"), .tuple [], .tuple [.int 1], .tuple [.int 1, .int 1], .tuple [.int 3, .int 2], .list [.int 1, .int 1], .tuple [.int 2, .int 4], .tuple [.int 0, .int 2]], rfl, upd_same, ?_, ?_, by decide +kernel, rfl, by walk_at "bag", by walk_at "ext"⟩
      · exact (BagAt.ne' (K := K) (by assumption) (by walk_at "bag")).symm
      · walk_at "dqs"
    · rintro σ' H1 ⟨p, xs, ds, rfl, hp, np, hx, ox, lx, b1, e1⟩
      refine r_mid (fun σ' H' => OddAt K H H' b 26 σ') ?_ ?_
      · walk_at "go"
        refine odd_cat b1 e1 hp hx ox (es := [.tuple [.int 1, .int 0], .tuple [.int (-1), .int 1], .tuple [.bool true, .int 1], .tuple [.int 1, .bool true], .tuple [.str (Str.ofString "1"), .int 1], .tuple [.tuple [.int 1, .int 1], .tuple [.int 2, .int 1]], .tuple [.tuple [.int 2, .int 1], .tuple [.int 1, .int 1]], .tuple [.none, .none]]) ?_ upd_same ?_ (by decide +kernel) (by rw [lx]; show _ + (_ + 1) ≤ 4000; simp) fun r H' z => ?_
        · walk_at "ext"
        · walk_at "dqs"
        · rw [lx] at z
          exact z
      · clear hp np hx ox lx b1 e1 p xs ds H1
        rintro σ' H1 ⟨p, xs, ds, rfl, hp, np, hx, ox, lx, b1, e1⟩
        refine r_mid (fun σ' H' => OddAt K H H' b 34 σ') ?_ ?_
        · walk_at "go"
          refine odd_cat b1 e1 hp hx ox (es := [.tuple [.int 1, .int 1, .int 1], .list [], .list [.tuple []], .list [.tuple [.int 1, .int 1], .tuple [.int 2, .int 1]], .tuple [.tuple [.int 1, .int 1], .list [.int 2, .int 1]], .tuple [.tuple [.int 1, .int 1]], .tuple [.tuple [.tuple [.int 1, .int 2], .int 3], .list [.int 4, .tuple [.none]]], .int (-1000)]) ?_ upd_same ?_ (by decide +kernel) (by rw [lx]; show _ + (_ + 1) ≤ 4000; simp) fun r H' z => ?_
          · walk_at "ext"
          · walk_at "dqs"
          · rw [lx] at z
            exact z
        · clear hp np hx ox lx b1 e1 p xs ds H1
          rintro σ' H1 ⟨p, xs, ds, rfl, hp, np, hx, ox, lx, b1, e1⟩
          refine r_mid (fun σ' H' => OddAt K H H' b 43 σ') ?_ ?_
          · walk_at "go"
            refine odd_cat b1 e1 hp hx ox (es := [.tuple [.int 1, .int (-1)], .tuple [.int 0, .int 0], .tuple [.tuple [.int 0, .int 1], .tuple [.int 4, .int 2]], .tuple [.tuple [.int 1, .int 1], .tuple [.int 1, .int 1]], .str (Str.ofString "own"), .str (Str.ofString "level"), .tuple [.str (Str.ofString "a")], .list [.str (Str.ofString "a")], .tuple [.int 1000, .int 1]]) ?_ upd_same ?_ (by decide +kernel) (by rw [lx]; show _ + (_ + 1) ≤ 4000; simp) fun r H' z => ?_
            · walk_at "ext"
            · walk_at "dqs"
            · rw [lx] at z
              exact z
          · clear hp np hx ox lx b1 e1 p xs ds H1
            rintro σ' H1 ⟨p, xs, ds, rfl, hp, np, hx, ox, lx, b1, e1⟩
            walk_at "go"
            exact of_dq b1 (.inl (.inl hp)) np.symm hx ox (by omega) (by omega) fun v d H' hd od b' e => k v d H' hd od b' (e1.of0.trans e)
def cutQ : Option (Rat × Rat) → Rat → Rat → Option (Rat × Rat)
  | none, _, _ => none
  | some (l, u), p, q => some (lmin (lmin l p) (lmin u q), lmin u q)
theorem cut_twice (m : Option (Rat × Rat)) (p q : Rat) : cutQ (cutQ m p q) p q = cutQ m p q := by
  cases m with
  | none => rfl
  | some r =>
    obtain ⟨l, u⟩ := r
    show some (lmin (lmin (lmin (lmin l p) (lmin u q)) p) (lmin (lmin u q) q), lmin (lmin u q) q) = some (lmin (lmin l p) (lmin u q), lmin u q)
    have e1 : lmin (lmin u q) q = lmin u q := by unfold lmin; grind
    rw [e1]
    generalize lmin u q = z
    have e2 : lmin (lmin (lmin (lmin l p) z) p) z = lmin (lmin l p) z := by unfold lmin; grind
    rw [e2]
def spCutM (K : PySem.W.Frag) : Sp := fun vs H Q _ => ∃ (m lv cv : V) (man : Option (Rat × Rat)) (p q : Rat), vs = [m, lv, cv] ∧ ManIs K H m man ∧ Am K H lv p ∧ Am K H cv q ∧ ManSz 4000 man ∧ Sz 4000 p ∧ Sz 4000 q ∧ ∀ v H', Ext [] H H' → ManIs K H' v (cutQ man p q) → Q v H'
abbrev s_cut_manner : Stmt := top 16
theorem c_cut_manner : FnScope ["manner", "least", "cap", "new_most", "new_least"] ["manner", "least", "cap"] (defScope s_cut_manner) := ⟨rfl, rfl, rfl, by decide +kernel, rfl, by decide +kernel, by decide +kernel⟩
theorem f_cut_manner (F : FunD K "cut_manner" "cut_manner" (defArgs s_cut_manner) (defBody s_cut_manner) (defScope s_cut_manner) [] [] f fd) (hm : mg "cut_manner" = some (.ref f)) (T : Bt mg) (Fsmallest : Fn P w K mg base 2 "smallest" (spMin minQ K)) : FnOk P w K mg base CX0 3 f fd ["manner", "least", "cap"] (spCutM K) := by
  refine ok_def F c_cut_manner (fun vs H Q E h => ?_) (fun cdv A outer s H vs Q E hr h => ?_)
  · obtain ⟨m, lv, cv, man, p, q, rfl, _⟩ := h
    rfl
  · obtain ⟨m, lv, cv, man, p, q, rfl, hm, hl, hc, sm, sp, sq, k⟩ := h
    have nd := c_cut_manner.nd
    refine ⟨_, (pss_cons (ps_if (pt_cmpR (op_eqD hr.units) (pv 0) (pe_tup pa_nil) (nomark _))
        (pss_one (ps_ret (pe_tup pa_nil)))
        pss_nil)
      (pss_cons (ps_set (i := 3) nd rfl (by first | exact Or.inl rfl | exact Or.inr rfl) (pe_fn Fsmallest (hr.mono (by decide)) (pa_cons (pe_ix ix_tup (pv 0) pe_int (fun _ _ => rfl)) (pa_cons (pv 2) pa_nil))))
      (pss_cons (ps_set (i := 4) nd rfl (by first | exact Or.inl rfl | exact Or.inr rfl) (pe_fn Fsmallest (hr.mono (by decide)) (pa_cons (pe_ix ix_tup (pv 0) pe_int (fun _ _ => rfl)) (pa_cons (pv 1) (pa_cons (pv 3) pa_nil)))))
      (pss_one (ps_ret (pe_tup (pa_cons (pv 4) (pa_cons (pv 3) pa_nil)))))))), ?_⟩
    show (_ : TS) _ [some _, some _, some _, none, none] _
    try dsimp only [cxOf, Cx.nox]
    walk_at "go"
    rename_i pe hpe
    have en := (Ext.refl (S := []) (H := H)).new (o := .tup []) hpe
    refine eq_man (hm.x0 en) tupS ?_
    have hm0 := hm.x0 en
    have hl0 := hl.x0 en
    have hc0 := hc.x0 en
    generalize upd H pe (.tup []) = H0 at *
    walk_at "go"
    cases man with
    | none =>
      walk_at "run"
      exact k _ _ (en.new (by assumption)) ⟨_, rfl, tupS⟩
    | some r =>
      obtain ⟨l, u⟩ := r
      obtain ⟨sl, su⟩ := sm l u rfl
      obtain ⟨am, v1, v2, rfl, hmt, a1, a2⟩ := hm0
      walk_at "run"
      refine k_min2 a2 hc0 su sq fun v3 H3 n3 a3 => ?_
      have hmt3 := tup0 n3 hmt
      walk_at "go"
      refine ⟨l, [p, lmin u q], Ams.cons (a1.x0 n3) (Ams.cons (hl0.x0 n3) (Ams.cons a3 Ams.nil)), fun x hx => ?_, by show 2 ≤ 4000; decide, fun v4 H4 n4 a4 => ?_⟩
      · rcases List.mem_cons.mp hx with rfl | hx
        · exact sl
        · rcases List.mem_cons.mp hx with rfl | hx
          · exact sp
          · rw [List.mem_singleton.mp hx]; exact sz_min su sq
      walk_at "go"
      rename_i pr hpr
      exact k _ _ (((en.trans n3).trans n4).new hpr) ⟨pr, v4, v3, rfl, tupS, a4.n hpr, (a3.x0 n4).n hpr⟩
def spLCut (K : PySem.W.Frag) : Sp := fun vs H Q _ => ∃ (m lv cv : V) (man : Option (Rat × Rat)) (p q : Rat), vs = [m, lv, cv] ∧ ManIs K H m man ∧ Am K H lv p ∧ Am K H cv q ∧ ManSz 4000 man ∧ (∀ l u, man = some (l, u) → 0 ≤ l ∧ 0 ≤ u) ∧ Sz 4000 p ∧ Sz 4000 q ∧ 0 ≤ p ∧ 0 ≤ q ∧ ∀ v H', Ext [] H H' → ManIs K H' v (cutQ man p q) → Q v H'
theorem lmin_nn {p q : Rat} (h : 0 ≤ p) (g : 0 ≤ q) : 0 ≤ lmin p q := by unfold lmin; split <;> assumption
abbrev s_law_cut : Stmt := top 44
theorem c_law_cut : FnScope ["_law_wish_here", "_law_few", "_law_lid", "_law_b"] ["_law_wish_here", "_law_few", "_law_lid"] (defScope s_law_cut) := ⟨rfl, rfl, rfl, by decide +kernel, rfl, by decide +kernel, by decide +kernel⟩
theorem f_law_cut (F : FunD K "_law_cut" "_law_cut" (defArgs s_law_cut) (defBody s_law_cut) (defScope s_law_cut) [] [] f fd) (hm : mg "_law_cut" = some (.ref f)) (F_law_min : Fn P w K mg base 2 "_law_min" (sp2 (fun _ _ => True) lmin K)) : Fn P w K mg base 3 "_law_cut" (spLCut K) := by
  refine fn_def F hm c_law_cut (fun vs H Q E h => ?_) (fun _ _ _ _ _ _ us hl => match us, hl with | [_, _, _], _ => rfl) (fun cdv A outer s H vs Q E hr h => ?_)
  · obtain ⟨m, lv, cv, man, p, q, rfl, _⟩ := h
    rfl
  · obtain ⟨m, lv, cv, man, p, q, rfl, hm, hl, hc, sm, nn, sp, sq, np, nq, k⟩ := h
    have nd := c_law_cut.nd
    refine ⟨_, (pss_cons (ps_if (pt_cmpR (op_eqD hr.units) (pv 0) (pe_tup pa_nil) (nomark _))
        (pss_one (ps_ret (pe_tup pa_nil)))
        pss_nil)
      (pss_cons (ps_set (i := 3) nd rfl (by first | exact Or.inl rfl | exact Or.inr rfl) (pe_fn F_law_min (hr.mono (by decide)) (pa_cons (pe_ix ix_tup (pv 0) pe_int (fun _ _ => rfl)) (pa_cons (pv 2) pa_nil))))
      (pss_one (ps_ret (pe_tup (pa_cons (pe_fn F_law_min (hr.mono (by decide)) (pa_cons (pe_fn F_law_min (hr.mono (by decide)) (pa_cons (pe_ix ix_tup (pv 0) pe_int (fun _ _ => rfl)) (pa_cons (pv 1) pa_nil))) (pa_cons (pv 3) pa_nil))) (pa_cons (pv 3) pa_nil))))))), ?_⟩
    show (_ : TS) _ [some _, some _, some _, none] _
    try dsimp only [cxOf, Cx.nox]
    walk_at "go"
    rename_i pe hpe
    have en := (Ext.refl (S := []) (H := H)).new (o := .tup []) hpe
    refine eq_man (hm.x0 en) tupS ?_
    have hm0 := hm.x0 en
    have hl0 := hl.x0 en
    have hc0 := hc.x0 en
    generalize upd H pe (.tup []) = H0 at *
    walk_at "go"
    cases man with
    | none =>
      walk_at "run"
      exact k _ _ (en.new (by assumption)) ⟨_, rfl, tupS⟩
    | some r =>
      obtain ⟨l, u⟩ := r
      obtain ⟨sl, su⟩ := sm l u rfl
      obtain ⟨nl, nu⟩ := nn l u rfl
      obtain ⟨am, v1, v2, rfl, hmt, a1, a2⟩ := hm0
      walk_at "run"
      refine k_two a2 hc0 su sq nu nq trivial fun v3 H3 n3 a3 => ?_
      have hmt3 := tup0 n3 hmt
      walk_at "go"
      refine k_two (a1.x0 n3) (hl0.x0 n3) sl sp nl np trivial fun v4 H4 n4 a4 => ?_
      walk_at "go"
      refine k_two a4 (a3.x0 n4) (sz_min sl sp) (sz_min su sq) (lmin_nn nl np) (lmin_nn nu nq) trivial fun v5 H5 n5 a5 => ?_
      walk_at "go"
      rename_i pr hpr
      exact k _ _ ((((en.trans n3).trans n4).trans n5).new hpr) ⟨pr, v5, v3, rfl, tupS, a5.n hpr, ((a3.x0 n4).x0 n5).n hpr⟩
end
end Yk

set_option maxHeartbeats 8000000
namespace Yk
open PySem PySem.Spec PyProof.Rows L2

/-! Shares and totals of wide wishes. -/
structure TotW (X M N : Nat) (rows : List Row) (x : Rat) : Prop where
  X0 : 0 < X
  X9 : X ≤ 2 ^ 300
  M9 : M ≤ 2 ^ 120
  N9 : N ≤ 2 ^ 120
  row : ∀ r ∈ rows, RowOk X M r
  x : In X N x
  n : rows.length ≤ 8
theorem Eqd.up {K : PySem.W.Frag} {H : Hp} {n : Nat} {v w : V} (h : Eqd K H n v w) : Eqd K H (n + 1) v w := by
  induction h with
  | non n => exact .non _
  | bl n b => exact .bl _ b
  | int n i => exact .int _ i
  | str n z => exact .str _ z
  | tup ha hb hl h4 _ ih => exact .tup ha hb hl h4 ih
  | lst ha hb hl h4 _ ih => exact .lst ha hb hl h4 ih
section
variable {P : Program} {w : World} {K : PySem.W.Frag} {mg : Str → Option Value} {base : Heap} {f : Addr} {fd : FuncData}
def spTotalW (K : PySem.W.Frag) : Sp := fun vs H Q _ => ∃ (a : Addr) (xs : List V) (rows : List Row) (v : V) (x : Rat) (X M N : Nat), vs = [.ref a, v] ∧ SqQ K H a xs ∧ RowsIs K H xs rows ∧ Am K H v x ∧ TotW X M N rows x ∧ RetAm K H Q (tot rows x)
abbrev s_total : Stmt := top 17
theorem c_total : FnScope ["wishes", "level", "found", "manner", "weight", "bound"] ["wishes", "level"] (defScope s_total) := ⟨rfl, rfl, rfl, by decide +kernel, rfl, by decide +kernel, by decide +kernel⟩
theorem f_total (F : FunD K "total" "total" (defArgs s_total) (defBody s_total) (defScope s_total) [] [] f fd) (hm : mg "total" = some (.ref f)) (Fshare : Fn P w K mg base 3 "share" (spShare K)) (Fplus : Fn P w K mg base 2 "plus" (spPlus K)) (Fsmallest : Fn P w K mg base 2 "smallest" (spMin minQ K)) : FnOk P w K mg base CX0 4 f fd ["wishes", "level"] (spTotalW K) := by
  refine ok_def F c_total (fun vs H Q E h => ?_) (fun cdv A outer s H vs Q E hr h => ?_)
  · obtain ⟨a, xs, rows, v, x, X, M, N, rfl, _⟩ := h
    rfl
  · obtain ⟨a, xs, rows, v, x, X, M, N, rfl, ha, hrows, hx, T, k⟩ := h
    have nd := c_total.nd
    refine ⟨_, (pss_cons (ps_setLc (i := 2) (own := [("manner", 3), ("weight", 4), ("bound", 5)])  rfl nd rfl rfl (sw_true rfl rfl rfl (by decide +kernel)) (pi_seq (pv 0)) (blkOk_by (N := ["wishes", "level", "found", "manner", "weight", "bound"]) (sc := defScope s_total) (by decide +kernel)) (fun _ _ _ _ _ => (pg_tup (n := 3) rfl (pgs_cons (pg_name (i := 3) nd rfl (Or.inl rfl)) (pgs_cons (pg_name (i := 4) nd rfl (Or.inl rfl)) (pgs_cons (pg_name (i := 5) nd rfl (Or.inl rfl)) pgs_nil))) : PG _ _ (gTup K 3 _))) (fun _ _ _ _ _ => pts_nil) (fun _ _ _ _ _ => (pe_fn Fshare (hr.mono (by decide)) (pa_cons (pv 3) (pa_cons (pv 4) (pa_cons (pe_fn Fsmallest (hr.mono (by decide)) (pa_cons (pv 1) (pa_cons (pv 5) pa_nil))) pa_nil))))))
      (pss_one (ps_ret (pe_fnS1 Fplus (hr.mono (by decide)) (pv 2))))), ?_⟩
    show (_ : TS) _ [some _, some _, none, none, none, none] _
    try dsimp only [cxOf, Cx.nox]
    walk_at "go"
    have zr : ∀ r ∈ rows, ManSz 421 r.man ∧ Sz 421 r.b := fun r hr => rowSz (T.row r hr) T.X0 T.X9 T.M9
    have zx : Sz 421 x := T.x.sz T.X0 T.X9 T.N9
    refine r_lcQ rfl ha (kp0 Ext.refl) fun D hD => ⟨fun i H1 => ∃ acc : List V, H1 D = some (.lst acc) ∧ Ams K H1 acc ((rows.take i).map fun r => r.at_ x) ∧ Ext [] H H1, ?_, ?_, ?_, ?_⟩
    · exact ⟨[], upd_same, Ams.nil, Ext.refl.new hD⟩
    · rintro j H2 ⟨acc, _, _, e⟩
      exact kp0 e
    · rintro j y H1 hy ⟨acc, hacc, hams, e1⟩
      obtain ⟨r, hr, hrow⟩ := hrows.at_ hy
      have hrm := List.mem_of_getElem? hr
      obtain ⟨at_, mv, bv, rfl, ht, hm, hb⟩ := hrow.x0 e1
      walk_at "go"
      refine ⟨rfl, ?_⟩
      walk_at "go"
      refine k_min2 (hx.x0 e1) hb (zx.mono (by decide)) ((zr r hrm).2.mono (by decide)) fun v1 H2 n2 a2 => ?_
      walk_at "go"
      have zm : Sz 2000 (lmin x r.b) := (sz_min zx ((zr r hrm).2.mono (by decide))).mono (by decide)
      refine ⟨mv, v1, r.w, r.man, lmin x r.b, rfl, hm.x0 n2, a2, (T.row r hrm).w12, fun l u e => ⟨((zr r hrm).1 l u e).1.mono (by decide), ((zr r hrm).1 l u e).2.mono (by decide)⟩, zm, fun v2 H3 n3 a3 => ?_⟩
      walk_at "go"
      have hD3 : H3 D = some (.lst acc) := n3 _ _ (n2 _ _ hacc fun z => nomatch z) fun z => nomatch z
      have hl := hams.1
      rw [List.length_map, List.length_take] at hl
      have := T.n
      refine ⟨acc, hD3, Nat.lt_of_le_of_lt (by omega : acc.length ≤ 4000) (by decide), acc ++ [v2], upd_same, ?_, ((e1.trans n2).trans n3).own hD⟩
      rw [take_map hr]
      exact (((hams.x0 n2).x0 n3).w hD3).app (Ams.cons (a3.w hD3) Ams.nil)
    · rintro H1 ⟨acc, hacc, hams, e1⟩
      rw [hrows.1, List.take_length] at hams
      have hl := hams.1
      rw [List.length_map] at hl
      walk_at "go"
      refine ⟨D, acc, rfl, .inr (.inl (.inl hacc)), _, 421, hams, fun q hq => ?_, by decide, ?_, fun v2 H2 n2 a2 => ?_⟩
      · obtain ⟨r, hr, rfl⟩ := List.mem_map.mp hq
        exact ((T.row r hr).at_ T.x).sz T.X0 T.X9 T.M9
      · rw [List.length_map]
        have := T.n
        omega
      · walk_at "go"
        exact k v2 H2 (e1.trans n2) a2
def spLShareW (K : PySem.W.Frag) : Sp := fun vs H Q _ => ∃ (m x : V) (r : Row) (q : Rat) (X M N : Nat), vs = [m, .int (r.w : Int), x] ∧ ManIs K H m r.man ∧ Am K H x q ∧ RowOk X M r ∧ In X N q ∧ 0 < X ∧ X ≤ 2 ^ 300 ∧ M ≤ 2 ^ 120 ∧ N ≤ 2 ^ 120 ∧ RetAm K H Q (shq r.man r.w q)
abbrev s_law_share : Stmt := top 35
theorem c_law_share : FnScope ["_law_wish_here", "_law_heavy", "_law_x"] ["_law_wish_here", "_law_heavy", "_law_x"] (defScope s_law_share) := ⟨rfl, rfl, rfl, by decide +kernel, rfl, by decide +kernel, by decide +kernel⟩
theorem f_law_share (F : FunD K "_law_share" "_law_share" (defArgs s_law_share) (defBody s_law_share) (defScope s_law_share) [] [] f fd) (hm : mg "_law_share" = some (.ref f)) (F_law_pair : Fn P w K mg base 1 "_law_pair" (spPair K)) (F_law_min : Fn P w K mg base 2 "_law_min" (sp2 (fun _ _ => True) lmin K)) (F_law_max : Fn P w K mg base 2 "_law_max" (sp2 (fun _ _ => True) lmax K)) : Fn P w K mg base 3 "_law_share" (spLShareW K) := by
  refine fn_def F hm c_law_share (fun vs H Q E h => ?_) (fun _ _ _ _ _ _ us hl => match us, hl with | [_, _, _], _ => rfl) (fun cdv A outer s H vs Q E hr h => ?_)
  · obtain ⟨m, x, r, q, X, M, N, rfl, _⟩ := h
    rfl
  · obtain ⟨m, x, r, q, X, M, N, rfl, hm, hx, ro, iq, X0, X9, M9, N9, k⟩ := h
    have nd := c_law_share.nd
    refine ⟨_, (pss_cons (ps_if (pt_cmpR (op_eqD hr.units) (pv 0) (pe_tup pa_nil) (nomark _))
        (pss_one (ps_ret (pe_tup (pa_cons pe_int (pa_cons pe_int pa_nil)))))
        pss_nil)
      (pss_one (ps_ret (pe_fn F_law_max (hr.mono (by decide)) (pa_cons (pe_ix ix_tup (pv 0) pe_int (fun _ _ => rfl)) (pa_cons (pe_fn F_law_min (hr.mono (by decide)) (pa_cons (pe_ix ix_tup (pv 0) pe_int (fun _ _ => rfl)) (pa_cons (pe_fn F_law_pair (hr.mono (by decide)) (pa_cons (pe_op op_mulW (pv 1) (pe_ix ix_tup (pv 2) pe_int (fun _ _ => rfl))) (pa_cons (pe_ix ix_tup (pv 2) pe_int (fun _ _ => rfl)) pa_nil))) pa_nil))) pa_nil)))))), ?_⟩
    show (_ : TS) _ [some _, some _, some _] _
    try dsimp only [cxOf, Cx.nox]
    walk_at "go"
    refine eq_man (hm.x0 (Ext.refl.new (by assumption))) tupS ?_
    walk_at "go"
    obtain ⟨man, wt, bd⟩ := r
    have w12 : wt ≤ 12 := ro.w12
    cases man with
    | none =>
      walk_at "run"
      exact k _ _ (by walk_at "ext") ⟨_, rfl, tupS⟩
    | some p =>
      obtain ⟨l, u⟩ := p
      obtain ⟨il, iu⟩ := ro.m l u rfl
      obtain ⟨a, v1, v2, rfl, ht, a1, a2⟩ := hm
      have hx0 := hx
      obtain ⟨ax, rfl, hxt⟩ := hx
      have zq : Sz 521 q := (iq.sz X0 X9 N9).mono (by decide)
      have mw : CMulW (wt : Int) q.num := cmul (m := 10) (n := 521) (by show (wt : Int).natAbs < 2 ^ 10; exact Nat.lt_of_le_of_lt (by omega : wt ≤ 12) (by decide)) zq.1 (by decide) (by decide) (by decide)
      walk_at "run"
      have eq : (wt : Int) * q.num = ((wt * q.num.toNat : Nat) : Int) := by push_cast; rw [Int.toNat_of_nonneg (num_nn iq.nn)]
      have hq1 : q.num.toNat < 2 ^ 521 := by have := zq.1; have := num_nn iq.nn; generalize (2 : Nat) ^ 521 = B at *; omega
      have hq3 : wt * q.num.toNat < 2 ^ (10 + 521) := by rw [Nat.pow_add]; exact Nat.mul_lt_mul'' (Nat.lt_of_le_of_lt (by omega : wt ≤ 12) (by decide)) hq1
      refine ⟨wt * q.num.toNat, q.den, by rw [eq], q.den_pos, Nat.lt_of_lt_of_le hq3 (Nat.pow_le_pow_right (by decide) (by decide)), Nat.lt_of_lt_of_le zq.2 (Nat.pow_le_pow_right (by decide) (by decide)), fun v3 H3 n3 a3 => ?_⟩
      rw [mk_w wt iq.nn] at a3
      walk_at "go"
      have iw := iq.mulN wt
      have zw : Sz 4000 ((wt : Rat) * q) := (sz_mul (sz_nat (m := 4) (by omega) (by decide)) zq).mono (by decide)
      refine k_two (a2.x0 (by walk_at "ext")) a3 ((iu.sz X0 X9 M9).mono (by decide)) zw iu.nn iw.nn trivial fun v4 H4 n4 a4 => ?_
      walk_at "go"
      have im := iu.lmin1 iw
      refine k_two (a1.x0 (by walk_at "ext")) a4 ((il.sz X0 X9 M9).mono (by decide)) ((im.sz X0 X9 M9).mono (by decide)) il.nn im.nn trivial fun v5 H5 n5 a5 => ?_
      walk_at "go"
      exact k _ _ (by walk_at "ext") a5
def spLTotalW (K : PySem.W.Frag) : Sp := fun vs H Q _ => ∃ (a : Addr) (xs : List V) (rows : List Row) (v : V) (x : Rat) (X M N : Nat), vs = [.ref a, v] ∧ SqL K H a xs ∧ RowsIs K H xs rows ∧ Am K H v x ∧ TotW X M N rows x ∧ RetAm K H Q (tot rows x)
abbrev s_law_total : Stmt := top 36
theorem c_law_total : FnScope ["_law_rows", "_law_x", "_law_row"] ["_law_rows", "_law_x"] (defScope s_law_total) := ⟨rfl, rfl, rfl, by decide +kernel, rfl, by decide +kernel, by decide +kernel⟩
theorem f_law_total (F : FunD K "_law_total" "_law_total" (defArgs s_law_total) (defBody s_law_total) (defScope s_law_total) [] [] f fd) (hm : mg "_law_total" = some (.ref f)) (F_law_share : Fn P w K mg base 3 "_law_share" (spLShareW K)) (F_law_min : Fn P w K mg base 2 "_law_min" (sp2 (fun _ _ => True) lmin K)) (F_law_sum : Fn P w K mg base 3 "_law_sum" (spSum K)) : Fn P w K mg base 4 "_law_total" (spLTotalW K) := by
  refine fn_def F hm c_law_total (fun vs H Q E h => ?_) (fun _ _ _ _ _ _ us hl => match us, hl with | [_, _], _ => rfl) (fun cdv A outer s H vs Q E hr h => ?_)
  · obtain ⟨a, xs, rows, v, x, X, M, N, rfl, _⟩ := h
    rfl
  · obtain ⟨a, xs, rows, v, x, X, M, N, rfl, ha, hrows, hx, T, k⟩ := h
    have nd := c_law_total.nd
    refine ⟨_, (pss_one (ps_ret (pe_fn F_law_sum (hr.mono (by decide)) (pa_cons (pe_lc (own := [("_law_row", 2)]) (g := gName 2) rfl nd (pi_list (pv 0)) (blkOk_by (N := ["_law_rows", "_law_x", "_law_row"]) (sc := defScope s_law_total) (by decide +kernel)) (fun _ _ _ _ _ => pg_name (i := 2) nd rfl (Or.inl rfl)) (fun _ _ _ _ _ => pts_nil) (fun _ _ _ _ _ => (pe_fn F_law_share (hr.mono (by decide)) (pa_cons (pe_ix ix_tup (pv 2) pe_int (fun _ _ => rfl) : PE _ _ (tOp (rIxT K) _ _)) (pa_cons (pe_ix ix_tup (pv 2) pe_int (fun _ _ => rfl) : PE _ _ (tOp (rIxT K) _ _)) (pa_cons (pe_fn F_law_min (hr.mono (by decide)) (pa_cons (pv 1) (pa_cons (pe_ix ix_tup (pv 2) pe_int (fun _ _ => rfl) : PE _ _ (tOp (rIxT K) _ _)) pa_nil))) pa_nil)))))) pa_nil)))), ?_⟩
    show (_ : TS) _ [some _, some _, none] _
    try dsimp only [cxOf, Cx.nox]
    have zr : ∀ r ∈ rows, ManSz 421 r.man ∧ Sz 421 r.b := fun r hr => rowSz (T.row r hr) T.X0 T.X9 T.M9
    have zx : Sz 421 x := T.x.sz T.X0 T.X9 T.N9
    walk_at "go"
    refine ⟨a, rfl, ⟨_, ha⟩, fun D hD => ?_⟩
    refine r_lcL (xs := xs) (fun i H1 => ∃ acc : List V, H1 D = some (.lst acc) ∧ Ams K H1 acc ((rows.take i).map fun r => r.at_ x) ∧ Ext [] H H1)
      ⟨[], upd_same, Ams.nil, Ext.refl.new hD⟩ ?_ ?_ ?_
    · rintro i H1 hi ⟨acc, _, _, e⟩
      exact lst0 e ha
    · rintro j y H1 hy ⟨acc, hacc, hams, e1⟩
      obtain ⟨r, hr, hrow⟩ := hrows.at_ hy
      have hrm := List.mem_of_getElem? hr
      have ro := T.row r hrm
      obtain ⟨at_, mv, bv, rfl, ht, hm, hb⟩ := hrow.x0 e1
      walk_at "go"
      refine ⟨rfl, ?_⟩
      walk_at "go"
      refine k_two (hx.x0 e1) hb (zx.mono (by decide)) ((zr r hrm).2.mono (by decide)) T.x.nn ro.b.nn trivial fun v1 H2 n2 a2 => ?_
      walk_at "go"
      refine ⟨mv, v1, r, lmin x r.b, X, M, M, rfl, hm.x0 n2, a2, ro, T.x.lmin ro.b, T.X0, T.X9, T.M9, T.M9, fun v2 H3 n3 a3 => ?_⟩
      walk_at "go"
      have hD3 : H3 D = some (.lst acc) := n3 _ _ (n2 _ _ hacc fun z => nomatch z) fun z => nomatch z
      have hl := hams.1
      rw [List.length_map, List.length_take] at hl
      have := T.n
      refine ⟨acc, hD3, Nat.lt_of_le_of_lt (by omega : acc.length ≤ 4000) (by decide), acc ++ [v2], upd_same, ?_, ((e1.trans n2).trans n3).own hD⟩
      rw [take_map hr]
      exact (((hams.x0 n2).x0 n3).w hD3).app (Ams.cons (a3.w hD3) Ams.nil)
    · rintro H1 ⟨acc, hacc, hams, e1⟩
      rw [hrows.1, List.take_length] at hams
      walk_at "go"
      refine ⟨D, acc, _, 421, rfl, .inl (.inl hacc), hams, fun q hq => ?_, fun q hq => ?_, by decide, ?_, fun v2 H2 n2 a2 => ?_⟩
      · obtain ⟨r, hr, rfl⟩ := List.mem_map.mp hq
        exact ((T.row r hr).at_ T.x).sz T.X0 T.X9 T.M9
      · obtain ⟨r, hr, rfl⟩ := List.mem_map.mp hq
        exact ((T.row r hr).at_ T.x).nn
      · rw [List.length_map]
        have := T.n
        omega
      · exact k v2 H2 (e1.trans n2) a2
def spSo (K : PySem.W.Frag) : Sp := fun vs H Q _ => ∃ (b : Bag), vs = [.ref b.a] ∧ BagAt K H b ∧ ∀ H', BagAt K H' b → Ext [b.a] H H' → Q (.bl true) H'
theorem mono20 {m n : Nat} {q : Rat} (h : Sz m q) (e : m ≤ n) : Sz n q := h.mono e
abbrev s_law_share_so : Stmt := top 43
theorem c_law_share_so : FnScope ["_law_bag_here", "_law_wish_here", "_law_heavy", "_law_some", "_law_x", "_law_y", "_law_one", "_law_two", "_law_told"] ["_law_bag_here"] (defScope s_law_share_so) := ⟨rfl, rfl, rfl, by decide +kernel, rfl, by decide +kernel, by decide +kernel⟩
theorem f_law_share_so (F : FunD K "_law_share_so" "_law_share_so" (defArgs s_law_share_so) (defBody s_law_share_so) (defScope s_law_share_so) [] [] f fd) (hm : mg "_law_share_so" = some (.ref f)) (F_law_wish : Fn P w K mg base 5 "_law_wish" (spWish K)) (F_law_grid : Fn P w K mg base 3 "_law_grid" (spGrid K)) (F_law_draw : Fn P w K mg base 1 "_law_draw" (spDraw K)) (F_law_amount : Fn P w K mg base 4 "_law_amount" (spAmt K)) (F_law_bit : Fn P w K mg base 3 "_law_bit" (spBit K)) (F_law_pair : Fn P w K mg base 1 "_law_pair" (spPair K)) (F_law_of : Fn P w K mg base 2 "_law_of" (spOf K)) (F_law_add : Fn P w K mg base 2 "_law_add" (sp2 (fun _ _ => True) (· + ·) K)) (F_law_share : Fn P w K mg base 3 "_law_share" (spLShareW K)) (Fshare : Fn P w K mg base 3 "share" (spShare K)) (Xshare_0_level_weight_manner : FnX P w K mg base 3 "share" 0 ["level", "weight", "manner"] [2, 1, 0] (spShare K)) (Xshare_0_manner_weight_level : FnX P w K mg base 3 "share" 0 ["manner", "weight", "level"] [0, 1, 2] (spShare K)) (Xshare_2_level : FnX P w K mg base 3 "share" 2 ["level"] [0, 1, 2] (spShare K)) (F_law_like : Fn P w K mg base 5 "_law_like" (spLike K 5)) (F_law_more : Fn P w K mg base 1 "_law_more" (spMore K)) : Fn P w K mg base 6 "_law_share_so" (spSo K) := by
  refine fn_def F hm c_law_share_so (fun vs H Q E h => ?_) (fun _ _ _ _ _ _ us hl => match us, hl with | [_], _ => rfl) (fun cdv A outer s H vs Q E hr h => ?_)
  · obtain ⟨b, rfl, _⟩ := h
    rfl
  · obtain ⟨b, rfl, hb, k⟩ := h
    have nd := c_law_share_so.nd
    refine ⟨_, (pss_cons (ps_set (i := 1) nd rfl (by first | exact Or.inl rfl | exact Or.inr rfl) (pe_fn F_law_wish (hr.mono (by decide)) (pa_cons (pv 0) (pa_cons (pe_fn F_law_grid (hr.mono (by decide)) (pa_cons (pv 0) pa_nil)) pa_nil))))
      (pss_cons (ps_set (i := 2) nd rfl (by first | exact Or.inl rfl | exact Or.inr rfl) (pe_op op_add pe_int (pe_fn F_law_draw (hr.mono (by decide)) (pa_cons (pv 0) (pa_cons pe_int pa_nil)))))
      (pss_cons (ps_set (i := 3) nd rfl (by first | exact Or.inl rfl | exact Or.inr rfl) (pe_lst (pa_cons (pe_fn F_law_amount (hr.mono (by decide)) (pa_cons (pv 0) pa_nil)) (pa_cons (pe_fn F_law_amount (hr.mono (by decide)) (pa_cons (pv 0) pa_nil)) (pa_cons (pe_fn F_law_bit (hr.mono (by decide)) (pa_cons (pv 0) pa_nil)) (pa_cons (pe_tup (pa_cons pe_int (pa_cons pe_int pa_nil))) (pa_cons (pe_tup (pa_cons pe_int (pa_cons pe_int pa_nil))) pa_nil)))))))
      (pss_mid (ps_if (pt_cmpR (op_neD hr.units) (pv 1) (pe_tup pa_nil) (nomark _))
        (pss_one (ps_set (i := 3) nd rfl (by first | exact Or.inl rfl | exact Or.inr rfl) (pe_op op_cat (pv 3) (pe_lst (pa_cons (pe_fn F_law_pair (hr.mono (by decide)) (pa_cons (pe_ix ix_tup (pe_ix ix_tup (pv 1) pe_int (fun _ _ => rfl)) pe_int (fun _ _ => rfl)) (pa_cons (pe_op op_mulW (pe_ix ix_tup (pe_ix ix_tup (pv 1) pe_int (fun _ _ => rfl)) pe_int (fun _ _ => rfl)) (pv 2)) pa_nil))) (pa_cons (pe_fn F_law_pair (hr.mono (by decide)) (pa_cons (pe_ix ix_tup (pe_ix ix_tup (pv 1) pe_int (fun _ _ => rfl)) pe_int (fun _ _ => rfl)) (pa_cons (pe_op op_mulW (pe_ix ix_tup (pe_ix ix_tup (pv 1) pe_int (fun _ _ => rfl)) pe_int (fun _ _ => rfl)) (pv 2)) pa_nil))) (pa_cons (pe_ix ix_tup (pv 1) pe_int (fun _ _ => rfl)) pa_nil)))))))
        pss_nil)
      (pss_cons (ps_set (i := 4) nd rfl (by first | exact Or.inl rfl | exact Or.inr rfl) (pe_fn F_law_of (hr.mono (by decide)) (pa_cons (pv 0) (pa_cons (pv 3) pa_nil))))
      (pss_cons (ps_set (i := 5) nd rfl (by first | exact Or.inl rfl | exact Or.inr rfl) (pe_fn F_law_add (hr.mono (by decide)) (pa_cons (pv 4) (pa_cons (pe_fn F_law_of (hr.mono (by decide)) (pa_cons (pv 0) (pa_cons (pe_lst (pa_cons (pe_tup (pa_cons pe_int (pa_cons pe_int pa_nil))) (pa_cons (pe_fn F_law_bit (hr.mono (by decide)) (pa_cons (pv 0) pa_nil)) (pa_cons (pe_tup (pa_cons pe_int (pa_cons pe_int pa_nil))) (pa_cons (pe_tup (pa_cons pe_int (pa_cons pe_int pa_nil))) pa_nil))))) pa_nil))) pa_nil))))
      (pss_cons (ps_set (i := 6) nd rfl (by first | exact Or.inl rfl | exact Or.inr rfl) (pe_fn F_law_share (hr.mono (by decide)) (pa_cons (pv 1) (pa_cons (pv 2) (pa_cons (pv 4) pa_nil)))))
      (pss_cons (ps_set (i := 7) nd rfl (by first | exact Or.inl rfl | exact Or.inr rfl) (pe_fn F_law_share (hr.mono (by decide)) (pa_cons (pv 1) (pa_cons (pv 2) (pa_cons (pv 5) pa_nil)))))
      (pss_cons (ps_set (i := 8) nd rfl (by first | exact Or.inl rfl | exact Or.inr rfl) (pe_lst (pa_cons (pe_fn Fshare (hr.mono (by decide)) (pa_cons (pv 1) (pa_cons (pv 2) (pa_cons (pv 4) pa_nil)))) (pa_cons (pe_fnX0 Xshare_0_level_weight_manner (hr.mono (by decide)) (pk_cons (pv 5) (pk_cons (pv 2) (pk_cons (pv 1) pk_nil)))) pa_nil))))
      (pss_mid (ps_if (PW.pt (pw_or (pt_not (pt_val (pe_fn F_law_like (hr.mono (by decide)) (pa_cons (pv 8) (pa_cons (pe_lst (pa_cons (pv 6) (pa_cons (pv 7) pa_nil))) pa_nil))))) (pw_or1 (pt_val (pe_fn F_law_more (hr.mono (by decide)) (pa_cons (pe_ix ix_list (pv 8) pe_int (fun _ _ => rfl)) (pa_cons (pe_ix ix_list (pv 8) pe_int (fun _ _ => rfl)) pa_nil)))))))
        (pss_one (ps_ret pe_bl))
        pss_nil)
      (pss_one (ps_ret (pe_fn F_law_like (hr.mono (by decide)) (pa_cons (pe_lst (pa_cons (pe_fnX0 Xshare_0_manner_weight_level (hr.mono (by decide)) (pk_cons (pv 1) (pk_cons (pv 2) (pk_cons (pv 4) pk_nil)))) (pa_cons (pe_fnX Xshare_2_level (hr.mono (by decide)) (pa_cons (pv 1) (pa_cons (pv 2) pa_nil)) (pk_cons (pe_tup (pa_cons pe_int (pa_cons pe_int pa_nil))) pk_nil)) pa_nil))) (pa_cons (pe_lst (pa_cons (pv 6) (pa_cons (pe_fn F_law_share (hr.mono (by decide)) (pa_cons (pv 1) (pa_cons (pv 2) (pa_cons (pe_tup (pa_cons pe_int (pa_cons pe_int pa_nil))) pa_nil)))) pa_nil))) pa_nil))))))))))))))), ?_⟩
    show (_ : TS) _ [some _, none, none, none, none, none, none, none, none] _
    try dsimp only [cxOf, Cx.nox]
    walk_at "go"
    refine ⟨b, rfl, hb, fun g H1 g0 g9 b1 n1 => ?_⟩
    walk_at "go"
    refine ⟨b, g, rfl, b1, g0, g9, fun mv man H2 hm mo b2 n2 => ?_⟩
    walk_at "go"
    refine k_draw b2 (by decide) (by decide) fun x3 H3 l3 u3 b3 n3 => ?_
    obtain ⟨wt, ew⟩ : ∃ wt : Nat, 1 + x3 = (wt : Int) := ⟨(1 + x3).toNat, by omega⟩
    have w0 : 0 < wt := by omega
    have w12 : wt ≤ 12 := by omega
    walk_at "go"
    rw [ew]
    refine k_amt b3 fun v4 q4 H4 a4 p4 s4 b4 n4 => ?_
    walk_at "go"
    refine k_amt b4 fun v5 q5 H5 a5 p5 s5 b5 n5 => ?_
    walk_at "go"
    refine k_bit b5 fun v6 q6 H6 a6 i6 b6 n6 => ?_
    walk_at "go"
    rename_i p1 hp1 p2 hp2 pl hpl
    have e7 : Ext [] H6 (upd (upd (upd H6 p1 (.tup [.int 0, .int 1])) p2 (.tup [.int 1000, .int 1])) pl (.lst [v4, v5, v6, .ref p1, .ref p2])) := by walk_at "ext"
    have t1 : Am K (upd (upd (upd H6 p1 (.tup [.int 0, .int 1])) p2 (.tup [.int 1000, .int 1])) pl (.lst [v4, v5, v6, .ref p1, .ref p2])) (.ref p1) 0 := ⟨p1, rfl, by walk_at "sq"⟩
    have t2 : Am K (upd (upd (upd H6 p1 (.tup [.int 0, .int 1])) p2 (.tup [.int 1000, .int 1])) pl (.lst [v4, v5, v6, .ref p1, .ref p2])) (.ref p2) 1000 := ⟨p2, rfl, by walk_at "sq"⟩
    have hl7 : upd (upd (upd H6 p1 (.tup [.int 0, .int 1])) p2 (.tup [.int 1000, .int 1])) pl (.lst [v4, v5, v6, .ref p1, .ref p2]) pl = some (.lst [v4, v5, v6, .ref p1, .ref p2]) := upd_same
    have npl : pl ≠ b.a := ((((b6.new (o := .tup [.int 0, .int 1]) hp1).new (o := .tup [.int 1000, .int 1]) hp2)).ne hpl).symm
    generalize upd (upd (upd H6 p1 (.tup [.int 0, .int 1])) p2 (.tup [.int 1000, .int 1])) pl (.lst [v4, v5, v6, .ref p1, .ref p2]) = H7 at *
    have n46 := n5.trans n6
    have ams7 : Ams K H7 [v4, v5, v6, .ref p1, .ref p2] [q4, q5, q6, 0, 1000] := Ams.cons ((a4.b b4 n46).x0 e7) (Ams.cons ((a5.b b5 n6).x0 e7) (Ams.cons (a6.x0 e7) (Ams.cons t1 (Ams.cons t2 Ams.nil))))
    have ok7 : ∀ q ∈ [q4, q5, q6, 0, 1000], 0 ≤ q ∧ Sz 114 q := by
      intro q hq
      simp only [List.mem_cons, List.not_mem_nil, or_false] at hq
      rcases hq with rfl | rfl | rfl | rfl | rfl
      · exact ⟨p4, s4⟩
      · exact ⟨p5, s5⟩
      · exact ⟨i6.nn, (i6.sz (j := 4) (k := 4) (by decide) (by decide) (by decide)).mono (by decide)⟩
      · exact ⟨by decide, by decide, by decide⟩
      · exact ⟨by decide, by decide, by decide⟩
    have b7 := b6.x0 e7
    have n27 := (n3.trans (n4.trans n46)).trans e7.of0
    have n07 : Ext [b.a] H H7 := (n1.trans n2).trans n27
    have hm7 := hm.b b2 n27
    have D0 : 0 < 12 * g := by omega
    have D9 : 12 * g ≤ 2 ^ 64 := Nat.le_trans (Nat.mul_le_mul_left 12 g9) (by decide)
    have ms : ManSz 77 man := fun l u e => ⟨(mo l u e).1.sz (k := 12) D0 D9 (by decide), (mo l u e).2.1.sz (k := 12) D0 D9 (by decide)⟩
    clear t1 t2 a4 a5 a6 hm
    refine r_mid (fun σ' H' => ∃ (pl : Addr) (xs : List V) (qs : List Rat), σ' = [some (V.ref b.a), some mv, some (.int (wt : Int)), some (.ref pl), none, none, none, none, none] ∧ H' pl = some (.lst xs) ∧ pl ≠ b.a ∧ Ams K H' xs qs ∧ (∀ q ∈ qs, 0 ≤ q ∧ Sz 114 q) ∧ 0 < qs.length ∧ qs.length ≤ 8 ∧ ManIs K H' mv man ∧ BagAt K H' b ∧ Ext [b.a] H H') ?_ ?_
    · walk_at "go"
      rename_i pe hpe
      have m8 := (Ext.refl (S := []) (H := H7)).new (o := .tup []) hpe
      refine ne_man (hm7.x0 m8) tupS ?_
      have hm8 := hm7.x0 m8
      have ams8 := ams7.x0 m8
      have hl8 := m8 _ _ hl7 fun z => nomatch z
      have b8 := b7.x0 m8
      have n08 := n07.trans m8.of0
      generalize upd H7 pe (.tup []) = H8 at *
      walk_at "go"
      cases man with
      | none =>
        walk_at "run"
        exact ⟨pl, _, _, rfl, hl8, npl, ams8, ok7, by show 0 < 5; decide, by show 5 ≤ 8; decide, hm8, b8, n08⟩
      | some p =>
        obtain ⟨l, u⟩ := p
        obtain ⟨il, iu, lu⟩ := mo l u rfl
        obtain ⟨sl, su⟩ := ms l u rfl
        have hm8' := hm8
        obtain ⟨am, v1, v2, rfl, hmt, ⟨c1, rfl, a1⟩, ⟨c2, rfl, a2⟩⟩ := hm8
        have wz : (wt : Int).natAbs < 2 ^ 10 := Nat.lt_of_le_of_lt (by omega : (wt : Int).natAbs ≤ 12) (by decide)
        have mw1 : CMulW (l.den : Int) (wt : Int) := cmul (m := 77) (n := 10) sl.2 wz (by decide) (by decide) (by decide)
        have mw2 : CMulW (u.den : Int) (wt : Int) := cmul (m := 77) (n := 10) su.2 wz (by decide) (by decide) (by decide)
        have pw : ∀ q : Rat, Sz 77 q → 0 ≤ q → q.num.toNat < 2 ^ 8900 ∧ q.den * wt < 2 ^ 8900 := fun q hq h0 => by
          constructor
          · have h1 := hq.1
            have h2 := num_nn h0
            have h3 : (2 : Nat) ^ 77 ≤ 2 ^ 8900 := Nat.pow_le_pow_right (by decide) (by decide)
            generalize (2 : Nat) ^ 8900 = B at *
            omega
          · have h3 : q.den * wt < 2 ^ 77 * 2 ^ 10 := Nat.mul_lt_mul'' hq.2 (Nat.lt_of_le_of_lt w12 (by decide))
            rw [← Nat.pow_add] at h3
            exact Nat.lt_of_lt_of_le h3 (Nat.pow_le_pow_right (by decide) (by decide))
        have dv : ∀ q : Rat, In (12 * g) 4096 q → 0 ≤ q / (wt : Rat) ∧ Sz 114 (q / (wt : Rat)) := fun q hq => by
          have h := hq.divN w0
          exact ⟨h.nn, (h.sz (j := 68) (k := 12) (Nat.mul_pos D0 w0) (Nat.le_trans (Nat.mul_le_mul D9 w12) (by decide)) (by decide)).mono (by decide)⟩
        walk_at "run"
        refine ⟨l.num.toNat, l.den * wt, by rw [Int.toNat_of_nonneg (num_nn il.nn)]; push_cast; rfl, Nat.mul_pos l.den_pos w0, (pw l sl il.nn).1, (pw l sl il.nn).2, fun w3 H9 n9 a9 => ?_⟩
        rw [pair_div il.nn w0] at a9
        have hmt9 := tup0 n9 hmt
        have a2' := tup0 n9 a2
        walk_at "go"
        refine ⟨u.num.toNat, u.den * wt, by rw [Int.toNat_of_nonneg (num_nn iu.nn)]; push_cast; rfl, Nat.mul_pos u.den_pos w0, (pw u su iu.nn).1, (pw u su iu.nn).2, fun w4 H10 n10 a10 => ?_⟩
        rw [pair_div iu.nn w0] at a10
        have hmt10 := tup0 n10 hmt9
        walk_at "go"
        rename_i q hq
        have n810 := n9.trans n10
        have m11 := (Ext.refl (S := []) (H := H10)).new (o := .lst [w3, w4, .ref c2]) hq
        have n811 := n810.trans m11
        have e2 : Am K H8 (.ref c2) u := ⟨c2, rfl, a2⟩
        refine ⟨pl, q, _, [w3, w4, .ref c2], rfl, rfl, n811 _ _ hl8 (fun z => nomatch z), upd_same, (show 5 + 3 ≤ sizeLine by decide), fun r hr => ?_⟩
        have m12 := (Ext.refl (S := []) (H := upd H10 q (.lst [w3, w4, .ref c2]))).new (o := .lst ([v4, v5, v6, .ref p1, .ref p2] ++ [w3, w4, .ref c2])) hr
        have n812 := n811.trans m12
        refine ⟨r, _, [q4, q5, q6, 0, 1000] ++ [l / (wt : Rat), u / (wt : Rat), u], rfl, upd_same, ((b8.x0 n811).ne hr).symm, (ams8.x0 n812).app (Ams.cons (a9.x0 (n10.trans (m11.trans m12))) (Ams.cons (a10.x0 (m11.trans m12)) (Ams.cons (e2.x0 n812) Ams.nil))), fun x hx => ?_, by show 0 < 8; decide, by show 8 ≤ 8; decide, hm8'.x0 n812, b8.x0 n812, n08.trans n812.of0⟩
        rcases List.mem_append.mp hx with h | h
        · exact ok7 x h
        · simp only [List.mem_cons, List.not_mem_nil, or_false] at h
          rcases h with rfl | rfl | rfl
          · exact dv l il
          · exact dv u iu
          · exact ⟨iu.nn, su.mono (by decide)⟩
    · clear hl7 ams7 ok7 b7 n07 hm7
      rintro σ' H7 ⟨pl, xs, qs, rfl, hl7, npl, ams7, ok7, lq0, lq8, hm7, b7, n07⟩
      walk_at "go"
      refine of_am b7 (.inl (.inl hl7)) npl.symm ams7 lq0 (by omega) fun vx x H8 hx ax b8 n8 => ?_
      obtain ⟨px, sx⟩ := ok7 x hx
      walk_at "go"
      rename_i r1 hr1
      have t1 : Am K (upd H8 r1 (.tup [.int 0, .int 1])) (.ref r1) 0 := ⟨r1, rfl, tupS⟩
      have m9 := (Ext.refl (S := []) (H := H8)).new (o := .tup [.int 0, .int 1]) hr1
      have b9 := b8.x0 m9
      generalize upd H8 r1 (.tup [.int 0, .int 1]) = H9 at *
      refine k_bit b9 fun v9 q9 H10 a9 i9 b10 n10 => ?_
      walk_at "go"
      rename_i r2 hr2 r3 hr3 rl hrl
      have e11 : Ext [] H10 (upd (upd (upd H10 r2 (.tup [.int 1, .int 1000])) r3 (.tup [.int 500, .int 1])) rl (.lst [.ref r1, v9, .ref r2, .ref r3])) := by walk_at "ext"
      have t2 : Am K (upd (upd (upd H10 r2 (.tup [.int 1, .int 1000])) r3 (.tup [.int 500, .int 1])) rl (.lst [.ref r1, v9, .ref r2, .ref r3])) (.ref r2) (mkRat ((1 : Nat) : Int) 1000) := ⟨r2, rfl, by walk_at "sq"⟩
      have t3 : Am K (upd (upd (upd H10 r2 (.tup [.int 1, .int 1000])) r3 (.tup [.int 500, .int 1])) rl (.lst [.ref r1, v9, .ref r2, .ref r3])) (.ref r3) 500 := ⟨r3, rfl, by walk_at "sq"⟩
      have b11 := b10.x0 e11
      have nrl := ((b10.new (o := .tup [.int 1, .int 1000]) hr2).new (o := .tup [.int 500, .int 1]) hr3).ne hrl
      have hl11 : SqL K (upd (upd (upd H10 r2 (.tup [.int 1, .int 1000])) r3 (.tup [.int 500, .int 1])) rl (.lst [.ref r1, v9, .ref r2, .ref r3])) rl [.ref r1, v9, .ref r2, .ref r3] := lstS
      generalize upd (upd (upd H10 r2 (.tup [.int 1, .int 1000])) r3 (.tup [.int 500, .int 1])) rl (.lst [.ref r1, v9, .ref r2, .ref r3]) = H11 at *
      refine of_am (qs := [0, q9, mkRat ((1 : Nat) : Int) 1000, 500]) b11 hl11 nrl (Ams.cons ((t1.b b9 n10).x0 e11) (Ams.cons (a9.x0 e11) (Ams.cons t2 (Ams.cons t3 Ams.nil)))) (Nat.zero_lt_succ _) (show 4 ≤ 4000 by decide) fun vz z H12 hz az b12 n12 => ?_
      have iz : In 3000 512 z := by
        simp only [List.mem_cons, List.not_mem_nil, or_false] at hz
        rcases hz with rfl | rfl | rfl | rfl
        · exact In.zero
        · exact (i9.up ⟨250, by decide⟩).most (by decide)
        · exact In.frac (by decide) ⟨3, by decide⟩ (by decide)
        · exact In.nat (n := 500) (by decide)
      have n812 : Ext [b.a] H8 H12 := m9.of0.trans (n10.trans (e11.of0.trans n12))
      have ax12 := ax.b b8 n812
      have hm12 := (hm7.b b7 n8).b b8 n812
      have n012 := (n07.trans n8).trans n812
      have ix0 := in_any px sx
      have X0 : 0 < 12 * g * (x.den * 3000) := Nat.mul_pos D0 (Nat.mul_pos x.den_pos (by decide))
      have X9 : 12 * g * (x.den * 3000) ≤ 2 ^ 300 := Nat.le_trans (Nat.mul_le_mul D9 (Nat.mul_le_mul_right 3000 (Nat.le_of_lt sx.2))) (by decide)
      have ix : In (12 * g * (x.den * 3000)) (2 ^ 114) x := ix0.up (Nat.dvd_trans (Nat.dvd_mul_right x.den 3000) (Nat.dvd_mul_left _ _))
      have iz' : In (12 * g * (x.den * 3000)) 512 z := iz.up (Nat.dvd_trans (Nat.dvd_mul_left 3000 x.den) (Nat.dvd_mul_left _ _))
      have iy := ix.add iz'
      have ro : RowOk (12 * g * (x.den * 3000)) 4096 ⟨man, wt, 0⟩ := ⟨w0, w12, In.zero, fun l u e => ⟨(mo l u e).1.up (Nat.dvd_mul_right _ _), (mo l u e).2.1.up (Nat.dvd_mul_right _ _)⟩⟩
      have sz : ∀ {q : Rat} {N : Nat}, In (12 * g * (x.den * 3000)) N q → N ≤ 2 ^ 120 → Sz 1900 q := fun h hN => (h.sz X0 X9 hN).mono (by decide)
      walk_at "go"
      refine k_two ax12 az (sx.mono (by decide)) ((iz.sz (j := 12) (k := 10) (by decide) (by decide) (by decide)).mono (by decide)) px iz.nn trivial fun vy H13 n13 ay => ?_
      have xy : x ≤ x + z := by have := iz.nn; grind
      generalize x + z = y at *
      have ax13 := ax12.x0 n13
      have hm13 := hm12.x0 n13
      have b13 := b12.x0 n13
      have N1 : 2 ^ 114 ≤ 2 ^ 120 := by decide
      have N2 : 2 ^ 114 + 512 ≤ 2 ^ 120 := by decide
      walk_at "go"
      refine ⟨mv, vx, ⟨man, wt, 0⟩, x, _, 4096, 2 ^ 114, rfl, hm13, ax13, ro, ix, X0, X9, by decide, N1, fun v1 H14 n14 a14 => ?_⟩
      walk_at "go"
      refine ⟨mv, vy, ⟨man, wt, 0⟩, y, _, 4096, 2 ^ 114 + 512, rfl, hm13.x0 n14, ay.x0 n14, ro, iy, X0, X9, by decide, N2, fun v2 H15 n15 a15 => ?_⟩
      have n35 := n14.trans n15
      have m2000 : ManSz 2000 man := fun l u e => ⟨(ms l u e).1.mono (by decide), (ms l u e).2.mono (by decide)⟩
      have sx2 : Sz 2000 x := (sz ix N1).mono (by decide)
      have sy2 : Sz 2000 y := (sz iy N2).mono (by decide)
      walk_at "go"
      refine ⟨mv, vx, wt, man, x, rfl, hm13.x0 n35, ax13.x0 n35, w12, m2000, sx2, fun v3 H16 n16 a16 => ?_⟩
      have n36 := n35.trans n16
      walk_at "go"
      refine ⟨[_, _, _], rfl, ?_⟩
      refine ⟨mv, vy, wt, man, y, rfl, hm13.x0 n36, ay.x0 n36, w12, m2000, sy2, fun v4' H17 n17 a17 => ?_⟩
      walk_at "go"
      rename_i s1 hs1
      have m18 := (Ext.refl (S := []) (H := H17)).new (o := .lst [v3, v4']) hs1
      have hs18 : upd H17 s1 (.lst [v3, v4']) s1 = some (.lst [v3, v4']) := upd_same
      have n38 := (n36.trans n17).trans m18
      have a14' := ((a14.x0 n15).x0 (n16.trans n17)).x0 m18
      have a15' := (a15.x0 (n16.trans n17)).x0 m18
      have a16' := (a16.x0 n17).x0 m18
      have a17' := a17.x0 m18
      generalize upd H17 s1 (.lst [v3, v4']) = H18 at *
      have i1 := shq_in (w := wt) ro.m ix
      have i2 := shq_in (w := wt) ro.m iy
      refine r_mid (fun σ' H' => Ext [] H18 H' ∧ σ' = [some (V.ref b.a), some mv, some (.int (wt : Int)), some (.ref pl), some vx, some vy, some v1, some v2, some (.ref s1)]) ?_ ?_
      · walk_at "go"
        rename_i s2 hs2
        have m19 := (Ext.refl (S := []) (H := H18)).new (o := .lst [v1, v2]) hs2
        refine k_like (ams_eqd (xs := [v3, v4']) (ys := [v1, v2]) (qs := [shq man wt x, shq man wt y]) (.inl (.inl (m19 _ _ hs18 fun z => nomatch z))) lstS (Ams.x0 m19 (Ams.cons a16' (Ams.cons a17' Ams.nil))) (Ams.x0 m19 (Ams.cons a14' (Ams.cons a15' Ams.nil))) (by show 2 ≤ 4000; decide) 2) fun H19 n19 => ?_
        have n89 := m19.trans n19
        have hs19 : SqL K H19 s1 [v3, v4'] := .inl (.inl (n89 _ _ hs18 fun z => nomatch z))
        walk_at "run"
        refine ⟨v3, v4', _, _, rfl, a16'.x0 n89, a17'.x0 n89, (sz i1 (by decide)).mono (by decide), (sz i2 (by decide)).mono (by decide), ?_⟩
        rw [decide_eq_false (Rat.not_lt.mpr (shq_mono xy))]
        walk_at "run"
        exact ⟨n89, rfl⟩
      · rintro σ' H19 ⟨n19, rfl⟩
        have n39 := n38.trans n19
        walk_at "go"
        refine ⟨[_, _, _], rfl, ?_⟩
        refine ⟨mv, vx, wt, man, x, rfl, hm13.x0 n39, ax13.x0 n39, w12, m2000, sx2, fun v5' H20 n20 a20 => ?_⟩
        walk_at "go"
        rename_i z1 hz1
        have m21 := (Ext.refl (S := []) (H := H20)).new (o := .tup [.int 0, .int 1]) hz1
        have tz : Am K (upd H20 z1 (.tup [.int 0, .int 1])) (.ref z1) 0 := ⟨z1, rfl, tupS⟩
        generalize upd H20 z1 (.tup [.int 0, .int 1]) = H21 at *
        have n31 := n39.trans (n20.trans m21)
        refine ⟨[_, _, _], rfl, ?_⟩
        refine ⟨mv, .ref z1, wt, man, 0, rfl, hm13.x0 n31, tz, w12, m2000, ⟨by decide, by decide⟩, fun v6' H22 n22 a22 => ?_⟩
        walk_at "go"
        rename_i s3 hs3 z2 hz2
        have m23 := ((Ext.refl (S := []) (H := H22)).new (o := .lst [v5', v6']) hs3).new (o := .tup [.int 0, .int 1]) hz2
        have tz2 : Am K (upd (upd H22 s3 (.lst [v5', v6'])) z2 (.tup [.int 0, .int 1])) (.ref z2) 0 := ⟨z2, rfl, tupS⟩
        have hs23 : SqL K (upd (upd H22 s3 (.lst [v5', v6'])) z2 (.tup [.int 0, .int 1])) s3 [v5', v6'] := by walk_at "sq"
        generalize upd (upd H22 s3 (.lst [v5', v6'])) z2 (.tup [.int 0, .int 1]) = H23 at *
        have n33 := n31.trans (n22.trans m23)
        refine ⟨mv, .ref z2, ⟨man, wt, 0⟩, 0, _, 4096, 0, rfl, hm13.x0 n33, tz2, ro, In.zero, X0, X9, by decide, by decide, fun v7' H24 n24 a24 => ?_⟩
        walk_at "go"
        rename_i s4 hs4
        have m25 := (Ext.refl (S := []) (H := H24)).new (o := .lst [v1, v7']) hs4
        have n25 := n24.trans m25
        have n2025 := m21.trans (n22.trans (m23.trans n25))
        have n1825 := n19.trans (n20.trans n2025)
        refine k_like (ams_eqd (xs := [v5', v6']) (ys := [v1, v7']) (qs := [shq man wt x, shq man wt 0]) (lst0 n25 hs23) lstS (Ams.cons (a20.x0 n2025) (Ams.cons (a22.x0 (m23.trans n25)) Ams.nil)) (Ams.cons (a14'.x0 n1825) (Ams.cons (a24.x0 m25) Ams.nil)) (by show 2 ≤ 4000; decide) 2) fun H26 n26 => ?_
        have n36' := (n33.trans n25).trans n26
        exact k H26 (b13.x0 n36') ((n012.trans n13.of0).trans n36'.of0)
end
end Yk

set_option maxHeartbeats 8000000
namespace Yk
open PySem PySem.Spec PyProof.Rows L2

def amData (q : Rat) : PyData := .tuple [.int q.num, .int (q.den : Int)]
def manData : Option (Rat × Rat) → PyData
  | none => .tuple []
  | some (l, u) => .tuple [amData l, amData u]
/-- a manner that may be handed about -/
def OkM (m : Option (Rat × Rat)) : Prop := ManSz 190 m ∧ ∀ l u, m = some (l, u) → 0 ≤ l ∧ 0 ≤ u
theorem am_smB {q : Rat} (h : Sz 190 q) : smAmB (amData q) = true := by
  have h1 : q.num.natAbs < 2 ^ 200 := (h.mono (by decide : 190 ≤ 200)).1
  have h2 : (q.den : Int).natAbs < 2 ^ 200 := (h.mono (by decide : 190 ≤ 200)).2
  show (decide (q.num.natAbs < 2 ^ 200) && decide ((q.den : Int).natAbs < 2 ^ 200)) = true
  rw [decide_eq_true h1, decide_eq_true h2]
  rfl
theorem am_amD {q : Rat} (h : 0 ≤ q) : amD (amData q) = true := by
  show (decide (0 ≤ q.num) && (decide (1 ≤ (q.den : Int)) && decide (Nat.gcd q.num.natAbs (q.den : Int).natAbs = 1))) = true
  have h1 := num_nn h
  have h2 := q.den_pos
  have h3 : Nat.gcd q.num.natAbs (q.den : Int).natAbs = 1 := q.reduced
  rw [decide_eq_true h1, decide_eq_true (by omega), decide_eq_true h3]
  rfl
theorem man_smB {m : Option (Rat × Rat)} (h : OkM m) : smB (manData m) = true := by
  cases m with
  | none => rfl
  | some p =>
    obtain ⟨l, u⟩ := p
    obtain ⟨h1, h2⟩ := h.1 l u rfl
    show (smAmB (amData l) && smAmB (amData u) && smAmB (.tuple [amData l, amData u])) = true
    rw [am_smB h1, am_smB h2]
    rfl
theorem man_manD {m : Option (Rat × Rat)} (h : OkM m) (hl : ∀ l u, m = some (l, u) → l ≤ u) : manD (manData m) = true := by
  cases m with
  | none => rfl
  | some p =>
    obtain ⟨l, u⟩ := p
    obtain ⟨h1, h2⟩ := h.2 l u rfl
    show (amD (amData l) && (amD (amData u) && leD (amData l) (amData u))) = true
    rw [am_amD h1, am_amD h2, show leD (amData l) (amData u) = decide (l ≤ u) from leD_rat, decide_eq_true (hl l u rfl)]
    rfl
theorem cut_ok {m : Option (Rat × Rat)} {p q : Rat} (h : OkM m) (hp : 0 ≤ p) (hq : 0 ≤ q) (sp : Sz 190 p) (sq : Sz 190 q) : OkM (cutQ m p q) ∧ ∀ l u, cutQ m p q = some (l, u) → l ≤ u := by
  cases m with
  | none => exact ⟨⟨(fun l u e => by cases e), (fun l u e => by cases e)⟩, (fun l u e => by cases e)⟩
  | some r =>
    obtain ⟨l, u⟩ := r
    obtain ⟨s1, s2⟩ := h.1 l u rfl
    obtain ⟨n1, n2⟩ := h.2 l u rfl
    refine ⟨⟨fun l' u' e => ?_, fun l' u' e => ?_⟩, fun l' u' e => ?_⟩
    · cases e; exact ⟨sz_min (sz_min s1 sp) (sz_min s2 sq), sz_min s2 sq⟩
    · cases e; exact ⟨lmin_nn (lmin_nn n1 hp) (lmin_nn n2 hq), lmin_nn n2 hq⟩
    · cases e; exact lmin_le2 _ _
section
variable {K : PySem.W.Frag} {H H1 : Hp}
theorem dq_am {S : List Addr} {v : V} {q : Rat} (h : Am K H v q) : Dq K S H v (amData q) := by
  obtain ⟨a, rfl, h⟩ := h
  exact .tup h (.cons (.int _) (.cons (.int _) .nil))
theorem dq_man {S : List Addr} {v : V} {m : Option (Rat × Rat)} (h : ManIs K H v m) : Dq K S H v (manData m) := by
  cases m with
  | none => obtain ⟨a, rfl, h⟩ := h; exact .tup h .nil
  | some p => obtain ⟨a, v1, v2, rfl, h, a1, a2⟩ := h; exact .tup h (.cons (dq_am a1) (.cons (dq_am a2) .nil))
theorem of_man {H : Hp} {b : Bag} {l : Addr} {xs : List V} {ms : List (Option (Rat × Rat))} {Q : VK} {E : XK} (hb : BagAt K H b) (hl : SqL K H l xs) (hne : b.a ≠ l) (ha : Rel (fun v m => ManIs K H v m) xs ms) (hok : ∀ m ∈ ms, OkM m) (h0 : 0 < xs.length) (h4 : xs.length ≤ 4000)
    (k : ∀ v m H', ManIs K H' v m → OkM m → BagAt K H' b → Ext [b.a] H H' → Q v H') : spOf K [.ref b.a, .ref l] H Q E :=
  ⟨b, l, xs, rfl, hb, hl, hne, h0, h4, fun i v H' hv hb' e => by
    obtain ⟨m, hm, hq⟩ := ha.at_ hv
    exact k v m H' (hq.b hb e) (hok m (List.mem_of_getElem? hm)) hb' e⟩
end
section
variable {P : Program} {w : World} {K : PySem.W.Frag} {mg : Str → Option Value} {base : Heap} {f : Addr} {fd : FuncData}
abbrev s_law_cut_so : Stmt := top 45
theorem c_law_cut_so : FnScope ["_law_bag_here", "_law_few", "_law_lid", "_law_a", "_law_b", "_law_wish_here", "_law_due", "_law_told"] ["_law_bag_here"] (defScope s_law_cut_so) := ⟨rfl, rfl, rfl, by decide +kernel, rfl, by decide +kernel, by decide +kernel⟩
theorem f_law_cut_so (F : FunD K "_law_cut_so" "_law_cut_so" (defArgs s_law_cut_so) (defBody s_law_cut_so) (defScope s_law_cut_so) [] [] f fd) (hm : mg "_law_cut_so" = some (.ref f)) (F_law_wish : Fn P w K mg base 5 "_law_wish" (spWish K)) (F_law_amount : Fn P w K mg base 4 "_law_amount" (spAmt K)) (F_law_bit : Fn P w K mg base 3 "_law_bit" (spBit K)) (F_law_of : Fn P w K mg base 2 "_law_of" (spOf K)) (F_law_add : Fn P w K mg base 2 "_law_add" (sp2 (fun _ _ => True) (· + ·) K)) (F_law_max : Fn P w K mg base 2 "_law_max" (sp2 (fun _ _ => True) lmax K)) (F_law_cut : Fn P w K mg base 3 "_law_cut" (spLCut K)) (Fcut_manner : Fn P w K mg base 3 "cut_manner" (spCutM K)) (Xcut_manner_0_cap_least_manner : FnX P w K mg base 3 "cut_manner" 0 ["cap", "least", "manner"] [2, 1, 0] (spCutM K)) (Fis_manner : Fn P w K mg base 3 "is_manner" (spIsMan K)) (F_law_like : Fn P w K mg base 5 "_law_like" (spLike K 5)) : Fn P w K mg base 6 "_law_cut_so" (spSo K) := by
  refine fn_def F hm c_law_cut_so (fun vs H Q E h => ?_) (fun _ _ _ _ _ _ us hl => match us, hl with | [_], _ => rfl) (fun cdv A outer s H vs Q E hr h => ?_)
  · obtain ⟨b, rfl, _⟩ := h
    rfl
  · obtain ⟨b, rfl, hb, k⟩ := h
    have nd := c_law_cut_so.nd
    refine ⟨_, (pss_cons (ps_set (i := 1) nd rfl (by first | exact Or.inl rfl | exact Or.inr rfl) (pe_fn F_law_of (hr.mono (by decide)) (pa_cons (pv 0) (pa_cons (pe_lst (pa_cons (pe_fn F_law_bit (hr.mono (by decide)) (pa_cons (pv 0) pa_nil)) (pa_cons (pe_tup (pa_cons pe_int (pa_cons pe_int pa_nil))) (pa_cons (pe_fn F_law_amount (hr.mono (by decide)) (pa_cons (pv 0) pa_nil)) pa_nil)))) pa_nil))))
      (pss_cons (ps_set (i := 2) nd rfl (by first | exact Or.inl rfl | exact Or.inr rfl) (pe_fn F_law_of (hr.mono (by decide)) (pa_cons (pv 0) (pa_cons (pe_lst (pa_cons (pv 1) (pa_cons (pe_fn F_law_add (hr.mono (by decide)) (pa_cons (pv 1) (pa_cons (pe_fn F_law_bit (hr.mono (by decide)) (pa_cons (pv 0) pa_nil)) pa_nil))) (pa_cons (pe_fn F_law_max (hr.mono (by decide)) (pa_cons (pv 1) (pa_cons (pe_tup (pa_cons pe_int (pa_cons pe_int pa_nil))) pa_nil))) (pa_cons (pe_fn F_law_max (hr.mono (by decide)) (pa_cons (pv 1) (pa_cons (pe_fn F_law_amount (hr.mono (by decide)) (pa_cons (pv 0) pa_nil)) pa_nil))) pa_nil))))) pa_nil))))
      (pss_cons (ps_set (i := 3) nd rfl (by first | exact Or.inl rfl | exact Or.inr rfl) (pe_fn F_law_of (hr.mono (by decide)) (pa_cons (pv 0) (pa_cons (pe_lst (pa_cons (pe_fn F_law_bit (hr.mono (by decide)) (pa_cons (pv 0) pa_nil)) (pa_cons (pe_fn F_law_amount (hr.mono (by decide)) (pa_cons (pv 0) pa_nil)) (pa_cons (pv 1) (pa_cons (pv 2) pa_nil))))) pa_nil))))
      (pss_cons (ps_set (i := 4) nd rfl (by first | exact Or.inl rfl | exact Or.inr rfl) (pe_fn F_law_of (hr.mono (by decide)) (pa_cons (pv 0) (pa_cons (pe_lst (pa_cons (pe_fn F_law_bit (hr.mono (by decide)) (pa_cons (pv 0) pa_nil)) (pa_cons (pe_fn F_law_amount (hr.mono (by decide)) (pa_cons (pv 0) pa_nil)) (pa_cons (pv 1) (pa_cons (pv 2) (pa_cons (pv 3) pa_nil)))))) pa_nil))))
      (pss_cons (ps_set (i := 5) nd rfl (by first | exact Or.inl rfl | exact Or.inr rfl) (pe_fn F_law_of (hr.mono (by decide)) (pa_cons (pv 0) (pa_cons (pe_lst (pa_cons (pe_tup (pa_cons (pv 3) (pa_cons (pv 4) pa_nil))) (pa_cons (pe_tup (pa_cons (pv 3) (pa_cons (pv 4) pa_nil))) (pa_cons (pe_tup (pa_cons (pv 4) (pa_cons (pv 3) pa_nil))) (pa_cons (pe_fn F_law_wish (hr.mono (by decide)) (pa_cons (pv 0) (pa_cons pe_int pa_nil))) (pa_cons (pe_tup pa_nil) pa_nil)))))) pa_nil))))
      (pss_cons (ps_set (i := 6) nd rfl (by first | exact Or.inl rfl | exact Or.inr rfl) (pe_fn F_law_cut (hr.mono (by decide)) (pa_cons (pv 5) (pa_cons (pv 1) (pa_cons (pv 2) pa_nil)))))
      (pss_cons (ps_set (i := 7) nd rfl (by first | exact Or.inl rfl | exact Or.inr rfl) (pe_fn Fcut_manner (hr.mono (by decide)) (pa_cons (pv 5) (pa_cons (pv 1) (pa_cons (pv 2) pa_nil)))))
      (pss_mid (ps_if (pt_not (pt_val (pe_fn F_law_like (hr.mono (by decide)) (pa_cons (pe_lst (pa_cons (pv 7) (pa_cons (pe_fnX0 Xcut_manner_0_cap_least_manner (hr.mono (by decide)) (pk_cons (pv 2) (pk_cons (pv 1) (pk_cons (pv 5) pk_nil)))) pa_nil))) (pa_cons (pe_lst (pa_cons (pv 6) (pa_cons (pv 6) pa_nil))) pa_nil)))))
        (pss_one (ps_ret pe_bl))
        pss_nil)
      (pss_one (ps_ret (pe_fn F_law_like (hr.mono (by decide)) (pa_cons (pe_lst (pa_cons (pe_fn Fcut_manner (hr.mono (by decide)) (pa_cons (pv 7) (pa_cons (pv 1) (pa_cons (pv 2) pa_nil)))) (pa_cons (pe_fn Fis_manner (hr.mono (by decide)) (pa_cons (pv 7) pa_nil)) pa_nil))) (pa_cons (pe_lst (pa_cons (pv 6) (pa_cons pe_bl pa_nil))) pa_nil))))))))))))), ?_⟩
    show (_ : TS) _ [some _, none, none, none, none, none, none, none] _
    try dsimp only [cxOf, Cx.nox]
    have sb : ∀ {q : Rat}, In 12 12 q → Sz 114 q := fun h => (h.sz (j := 4) (k := 4) (by decide) (by decide) (by decide)).mono (by decide)
    walk_at "go"
    refine k_bit hb fun v1 q1 H1 a1 i1 b1 n1 => ?_
    walk_at "go"
    rename_i p1 hp1
    have m1 := (Ext.refl (S := []) (H := H1)).new (o := .tup [.int 0, .int 1]) hp1
    have t1 : Am K (upd H1 p1 (.tup [.int 0, .int 1])) (.ref p1) 0 := ⟨p1, rfl, tupS⟩
    have b1' := b1.x0 m1
    generalize upd H1 p1 (.tup [.int 0, .int 1]) = H1' at *
    refine k_amt b1' fun v2 q2 H2 a2 p2 s2 b2 n2 => ?_
    walk_at "go"
    rename_i pl hpl
    refine of_am (qs := [q1, 0, q2]) (b2.new hpl) lstS (b2.ne hpl) (Ams.x0 (Ext.refl.new hpl) (Ams.cons ((a1.x0 m1).b b1' n2) (Ams.cons (t1.b b1' n2) (Ams.cons a2 Ams.nil)))) (Nat.zero_lt_succ _) (show 3 ≤ 4000 by decide) fun fv few H3 hfew afew b3 n3 => ?_
    have ofew : 0 ≤ few ∧ Sz 114 few := by
      simp only [List.mem_cons, List.not_mem_nil, or_false] at hfew
      rcases hfew with rfl | rfl | rfl
      · exact ⟨i1.nn, sb i1⟩
      · exact ⟨Rat.le_refl, by decide, by decide⟩
      · exact ⟨p2, s2⟩
    have n03 : Ext [b.a] H H3 := n1.trans (m1.of0.trans (n2.trans ((Ext.refl.new hpl).trans n3)))
    walk_at "go"
    refine k_bit b3 fun v4 q4 H4 a4 i4 b4 n4 => ?_
    walk_at "go"
    refine k_two (afew.b b3 n4) a4 (ofew.2.mono (by decide)) ((sb i4).mono (by decide)) ofew.1 i4.nn trivial fun v5 H5 n5 a5 => ?_
    have o5 : 0 ≤ few + q4 ∧ Sz 190 (few + q4) := ⟨add_nn ofew.1 i4.nn, (sz_add ofew.2 (i4.sz (j := 4) (k := 4) (by decide) (by decide) (by decide))).mono (by decide)⟩
    generalize few + q4 = q5 at *
    walk_at "go"
    rename_i p5 hp5
    have m5 := (Ext.refl (S := []) (H := H5)).new (o := .tup [.int 1000, .int 1]) hp5
    have n35 : Ext [b.a] H3 (upd H5 p5 (.tup [.int 1000, .int 1])) := n4.trans (n5.of0.trans m5.of0)
    refine k_two (afew.b b3 n35) (q := 1000) ⟨p5, rfl, tupS⟩ (ofew.2.mono (by decide)) ⟨by decide, by decide⟩ ofew.1 (by decide) trivial fun v6 H6 n6 a6 => ?_
    have o6 : 0 ≤ lmax few 1000 ∧ Sz 190 (lmax few 1000) := by unfold lmax; split; exact ⟨ofew.1, ofew.2.mono (by decide)⟩; exact ⟨by decide, by decide, by decide⟩
    generalize lmax few 1000 = q6 at *
    have b6 := (b4.x0 (n5.trans m5)).x0 n6
    walk_at "go"
    refine k_amt b6 fun v7 q7 H7 a7 p7 s7 b7 n7 => ?_
    walk_at "go"
    have n37 : Ext [b.a] H3 H7 := n35.trans (n6.of0.trans n7)
    refine k_two (afew.b b3 n37) a7 (ofew.2.mono (by decide)) (s7.mono (by decide)) ofew.1 p7 trivial fun v8 H8 n8 a8 => ?_
    have o8 : 0 ≤ lmax few q7 ∧ Sz 190 (lmax few q7) := by unfold lmax; split; exact ⟨ofew.1, ofew.2.mono (by decide)⟩; exact ⟨p7, s7.mono (by decide)⟩
    generalize lmax few q7 = q8 at *
    walk_at "go"
    rename_i pm hpm
    have b8 := b7.x0 n8
    have n38 := n37.trans n8.of0
    have n58 : Ext [b.a] H5 H8 := m5.of0.trans (n6.of0.trans (n7.trans n8.of0))
    have b5 := b4.x0 n5
    have n68 : Ext [b.a] H6 H8 := n7.trans n8.of0
    refine of_am (qs := [few, q5, q6, q8]) (b8.new hpm) lstS (b8.ne hpm) (Ams.x0 (Ext.refl.new hpm) (Ams.cons (afew.b b3 n38) (Ams.cons (a5.b b5 n58) (Ams.cons (a6.b b6 n68) (Ams.cons a8 Ams.nil))))) (Nat.zero_lt_succ _) (show 4 ≤ 4000 by decide) fun lv lid H9 hlid alid b9 n9 => ?_
    have olid : 0 ≤ lid ∧ Sz 190 lid := by
      simp only [List.mem_cons, List.not_mem_nil, or_false] at hlid
      rcases hlid with rfl | rfl | rfl | rfl
      · exact ⟨ofew.1, ofew.2.mono (by decide)⟩
      · exact o5
      · exact o6
      · exact o8
    have n39 : Ext [b.a] H3 H9 := n38.trans ((Ext.refl.new hpm).trans n9)
    have afew9 := afew.b b3 n39
    have ofew' : 0 ≤ few ∧ Sz 190 few := ⟨ofew.1, ofew.2.mono (by decide)⟩
    have n09 := n03.trans n39
    clear a4 a5 a6 a7 a8 o5 o6 o8 a1 a2 t1 afew
    walk_at "go"
    refine k_bit b9 fun w1 x1 G1 c1 j1 d1 r1 => ?_
    walk_at "go"
    refine k_amt d1 fun w2 x2 G2 c2 y2 z2 d2 r2 => ?_
    walk_at "go"
    rename_i pa hpa
    have r12 := r1.trans r2
    refine of_am (qs := [x1, x2, few, lid]) (d2.new hpa) lstS (d2.ne hpa) (Ams.x0 (Ext.refl.new hpa) (Ams.cons (c1.b d1 r2) (Ams.cons c2 (Ams.cons (afew9.b b9 r12) (Ams.cons (alid.b b9 r12) Ams.nil))))) (Nat.zero_lt_succ _) (show 4 ≤ 4000 by decide) fun av qa G3 hqa aa d3 r3 => ?_
    have oa : 0 ≤ qa ∧ Sz 190 qa := by
      simp only [List.mem_cons, List.not_mem_nil, or_false] at hqa
      rcases hqa with rfl | rfl | rfl | rfl
      · exact ⟨j1.nn, (sb j1).mono (by decide)⟩
      · exact ⟨y2, z2.mono (by decide)⟩
      · exact ofew'
      · exact olid
    have r93 : Ext [b.a] H9 G3 := r12.trans ((Ext.refl.new hpa).trans r3)
    walk_at "go"
    refine k_bit d3 fun w4 x4 G4 c4 j4 d4 r4 => ?_
    walk_at "go"
    refine k_amt d4 fun w5 x5 G5 c5 y5 z5 d5 r5 => ?_
    walk_at "go"
    rename_i pb hpb
    have r45 := r4.trans r5
    have r95 := r93.trans r45
    refine of_am (qs := [x4, x5, few, lid, qa]) (d5.new hpb) lstS (d5.ne hpb) (Ams.x0 (Ext.refl.new hpb) (Ams.cons (c4.b d4 r5) (Ams.cons c5 (Ams.cons (afew9.b b9 r95) (Ams.cons (alid.b b9 r95) (Ams.cons (aa.b d3 r45) Ams.nil)))))) (Nat.zero_lt_succ _) (show 5 ≤ 4000 by decide) fun bv qb G6 hqb ab d6 r6 => ?_
    have ob : 0 ≤ qb ∧ Sz 190 qb := by
      simp only [List.mem_cons, List.not_mem_nil, or_false] at hqb
      rcases hqb with rfl | rfl | rfl | rfl | rfl
      · exact ⟨j4.nn, (sb j4).mono (by decide)⟩
      · exact ⟨y5, z5.mono (by decide)⟩
      · exact ofew'
      · exact olid
      · exact oa
    have r36 : Ext [b.a] G3 G6 := r45.trans ((Ext.refl.new hpb).trans r6)
    have r96 := r93.trans r36
    have aa6 := aa.b d3 r36
    have mk2 : ∀ {x y : Rat}, (0 ≤ x ∧ Sz 190 x) → (0 ≤ y ∧ Sz 190 y) → OkM (some (x, y)) := fun hx hy => ⟨fun l u e => by cases e; exact ⟨hx.2, hy.2⟩, fun l u e => by cases e; exact ⟨hx.1, hy.1⟩⟩
    walk_at "go"
    rename_i s1 hs1 s2 hs2 s3 hs3
    have e7 : Ext [] G6 (upd (upd (upd G6 s1 (.tup [av, bv])) s2 (.tup [av, bv])) s3 (.tup [bv, av])) := by walk_at "ext"
    have u1 : ManIs K (upd (upd (upd G6 s1 (.tup [av, bv])) s2 (.tup [av, bv])) s3 (.tup [bv, av])) (.ref s1) (some (qa, qb)) := ⟨s1, av, bv, rfl, by walk_at "sq", aa6.x0 e7, ab.x0 e7⟩
    have u2 : ManIs K (upd (upd (upd G6 s1 (.tup [av, bv])) s2 (.tup [av, bv])) s3 (.tup [bv, av])) (.ref s2) (some (qa, qb)) := ⟨s2, av, bv, rfl, by walk_at "sq", aa6.x0 e7, ab.x0 e7⟩
    have u3 : ManIs K (upd (upd (upd G6 s1 (.tup [av, bv])) s2 (.tup [av, bv])) s3 (.tup [bv, av])) (.ref s3) (some (qb, qa)) := ⟨s3, bv, av, rfl, by walk_at "sq", ab.x0 e7, aa6.x0 e7⟩
    have d7 := d6.x0 e7
    generalize upd (upd (upd G6 s1 (.tup [av, bv])) s2 (.tup [av, bv])) s3 (.tup [bv, av]) = G7 at *
    refine ⟨b, 1, rfl, d7, by decide, by decide, fun v8 m8 G8 hm8 mo8 d8 r8 => ?_⟩
    walk_at "go"
    rename_i s4 hs4 ps hps
    have e9 : Ext [] G8 (upd (upd G8 s4 (.tup [])) ps (.lst [.ref s1, .ref s2, .ref s3, v8, .ref s4])) := by walk_at "ext"
    have u5 : ManIs K (upd (upd G8 s4 (.tup [])) ps (.lst [.ref s1, .ref s2, .ref s3, v8, .ref s4])) (.ref s4) none := ⟨s4, rfl, by walk_at "sq"⟩
    have ok8 : OkM m8 := ⟨fun l u e => ⟨((mo8 l u e).1.sz (j := 4) (k := 12) (by decide) (by decide) (by decide)).mono (by decide), ((mo8 l u e).2.1.sz (j := 4) (k := 12) (by decide) (by decide) (by decide)).mono (by decide)⟩, fun l u e => ⟨(mo8 l u e).1.nn, (mo8 l u e).2.1.nn⟩⟩
    refine of_man (ms := [some (qa, qb), some (qa, qb), some (qb, qa), m8, none]) (d8.x0 e9) lstS ((d8.new hs4).ne hps) (.cons ((u1.b d7 r8).x0 e9) (.cons ((u2.b d7 r8).x0 e9) (.cons ((u3.b d7 r8).x0 e9) (.cons (hm8.x0 e9) (.cons u5 .nil))))) (fun m hm => ?_) (Nat.zero_lt_succ _) (show 5 ≤ 4000 by decide) fun mv man G9 hman oman d9 r9 => ?_
    · simp only [List.mem_cons, List.not_mem_nil, or_false] at hm
      rcases hm with rfl | rfl | rfl | rfl | rfl
      · exact mk2 oa ob
      · exact mk2 oa ob
      · exact mk2 ob oa
      · exact ok8
      · exact ⟨(fun l u e => by cases e), (fun l u e => by cases e)⟩
    have r99 : Ext [b.a] H9 G9 := r96.trans (e7.of0.trans (r8.trans (e9.of0.trans r9)))
    have af := afew9.b b9 r99
    have al := alid.b b9 r99
    have n0 := n09.trans r99
    have m4 : ManSz 4000 man := fun l u e => ⟨(oman.1 l u e).1.mono (by decide), (oman.1 l u e).2.mono (by decide)⟩
    have sf : Sz 4000 few := ofew'.2.mono (by decide)
    have sl : Sz 4000 lid := olid.2.mono (by decide)
    clear u1 u2 u3 u5 aa6 aa ab afew9 alid hm8
    walk_at "go"
    refine ⟨mv, fv, lv, man, few, lid, rfl, hman, af, al, m4, oman.2, sf, sl, ofew.1, olid.1, fun vd G10 r10 hd => ?_⟩
    walk_at "go"
    refine ⟨mv, fv, lv, man, few, lid, rfl, hman.x0 r10, af.x0 r10, al.x0 r10, m4, sf, sl, fun vt G11 r11 ht => ?_⟩
    obtain ⟨okc, lec⟩ := cut_ok oman ofew.1 olid.1 ofew'.2 olid.2
    have ctw := cut_twice man few lid
    have r911 := r10.trans r11
    have hd11 := hd.x0 r11
    have mc : ManSz 4000 (cutQ man few lid) := fun l u e => ⟨(okc.1 l u e).1.mono (by decide), (okc.1 l u e).2.mono (by decide)⟩
    refine r_mid (fun σ' H' => Ext [] G11 H' ∧ σ' = [some (V.ref b.a), some fv, some lv, some av, some bv, some mv, some vd, some vt]) ?_ ?_
    · walk_at "go"
      refine ⟨[_, _, _], rfl, ?_⟩
      refine ⟨mv, fv, lv, man, few, lid, rfl, hman.x0 r911, af.x0 r911, al.x0 r911, m4, sf, sl, fun vt2 G12 r12 ht2 => ?_⟩
      walk_at "go"
      rename_i l1 hl1 l2 hl2
      have m13 := ((Ext.refl (S := []) (H := G12)).new (o := .lst [vt, vt2]) hl1).new (o := .lst [vd, vd]) hl2
      have q1' : SqL K (upd (upd G12 l1 (.lst [vt, vt2])) l2 (.lst [vd, vd])) l1 [vt, vt2] := by walk_at "sq"
      have q2' : SqL K (upd (upd G12 l1 (.lst [vt, vt2])) l2 (.lst [vd, vd])) l2 [vd, vd] := lstS
      generalize upd (upd G12 l1 (.lst [vt, vt2])) l2 (.lst [vd, vd]) = G13 at *
      have r1113 := r12.trans m13
      have x1' := (man_eqd (ht.x0 r1113) (hd11.x0 r1113)).up
      have x2' := (man_eqd (ht2.x0 m13) (hd11.x0 r1113)).up
      refine k_like (.lst q1' q2' rfl (show 2 ≤ 4000 by decide) fun i x y hx hy => ?_) fun G14 r14 => ?_
      · match i, hx, hy with
        | 0, hx, hy => cases hx; cases hy; exact x1'
        | 1, hx, hy => cases hx; cases hy; exact x2'
        | i + 2, hx, _ => cases hx
      · walk_at "run"
        exact ⟨r1113.trans r14, rfl⟩
    · rintro σ' G12 ⟨r12, rfl⟩
      have r912 := r911.trans r12
      walk_at "go"
      refine ⟨vt, fv, lv, cutQ man few lid, few, lid, rfl, ht.x0 r12, af.x0 r912, al.x0 r912, mc, sf, sl, fun vt3 G13 r13 ht3 => ?_⟩
      rw [ctw] at ht3
      have r1113 := r12.trans r13
      walk_at "go"
      refine ⟨vt, manData (cutQ man few lid), rfl, (dq_man (S := []) (ht.x0 r1113)).dp, man_smB okc, ?_⟩
      rw [man_manD okc lec]
      walk_at "go"
      rename_i l1 hl1 l2 hl2
      have m14 := ((Ext.refl (S := []) (H := G13)).new (o := .lst [vt3, .bl true]) hl1).new (o := .lst [vd, .bl true]) hl2
      have q1' : SqL K (upd (upd G13 l1 (.lst [vt3, .bl true])) l2 (.lst [vd, .bl true])) l1 [vt3, .bl true] := by walk_at "sq"
      have q2' : SqL K (upd (upd G13 l1 (.lst [vt3, .bl true])) l2 (.lst [vd, .bl true])) l2 [vd, .bl true] := lstS
      generalize upd (upd G13 l1 (.lst [vt3, .bl true])) l2 (.lst [vd, .bl true]) = G14 at *
      have x1' := (man_eqd (ht3.x0 m14) (hd11.x0 (r1113.trans m14))).up
      refine k_like (.lst q1' q2' rfl (show 2 ≤ 4000 by decide) fun i x y hx hy => ?_) fun G15 r15 => ?_
      · match i, hx, hy with
        | 0, hx, hy => cases hx; cases hy; exact x1'
        | 1, hx, hy => cases hx; cases hy; exact .bl _ _
        | i + 2, hx, _ => cases hx
      · have r915 := r911.trans (r1113.trans (m14.trans r15))
        exact k G15 (d9.x0 r915) (n0.trans r915.of0)
end
end Yk

set_option maxHeartbeats 8000000
namespace Yk
open PySem PySem.Spec PyProof.Rows L2

local macro_rules | `(tactic| walk_at "na") => `(tactic| (intro hq; exact BagAt.ne' (K := ‹PySem.W.Frag›) (by assumption) (by walk_at "bag") (List.mem_singleton.mp hq).symm))
local macro_rules | `(tactic| walk_at "dq") => `(tactic| first
  | exact Dq.non
  | exact Dq.bl _
  | exact Dq.int _
  | exact Dq.str _
  | ((refine' dq_am ?h1); (case h1 => walk_at "am"))
  | ((refine' Dq.tup ?h1 ?h2); (case h1 => walk_at "sq"); (case h2 => walk_at "dqs"))
  | ((refine' Dq.lst ?h0 ?h1 ?h2); (case h1 => walk_at "sq"); (case h0 => walk_at "na"); (case h2 => walk_at "dqs")))
local macro_rules | `(tactic| walk_at "dqs") => `(tactic| first
  | exact DqAll.nil
  | ((refine' DqAll.cons ?g1 ?g2); (case g1 => walk_at "dq"); (case g2 => walk_at "dqs")))
def pairs18 (p q : Rat) : List PyData := [.tuple [amData p, amData q], .tuple [amData q, amData p], .tuple [amData p, amData p], .tuple [], .list [], .list [amData p, amData q], .tuple [amData p], .tuple [amData p, amData q, amData q], .tuple [amData p, .none], .tuple [amData p, .list [.int q.num, .int (q.den : Int)]], .tuple [amData p, .tuple [.int q.num, .int 0]], .tuple [amData p, .tuple [.int (q.num * 2), .int ((q.den : Int) * 2)]], .tuple [.bool true, amData q], .tuple [.tuple [.bool true, .int 1], .tuple [.int 1001, .int 1]], .tuple [.tuple [.int 0, .int 1], .tuple [.bool true, .int 1]], .tuple [.tuple [], .tuple []], amData p, .str (Str.ofString "()")]
theorem RowOk.mostW {D M M' : Nat} {r : Row} (h : RowOk D M r) (hm : M ≤ M') : RowOk D M' r := ⟨h.w0, h.w12, h.b.most hm, fun l u e => ⟨(h.m l u e).1.most hm, (h.m l u e).2.most hm⟩⟩
theorem ok_pair {x y : PyData} (h1 : smAmB x = true) (h2 : smAmB y = true) (h3 : smAmB (.tuple [x, y]) = true) : okB (.tuple [x, y]) = true := by
  show ((smAmB x && smAmB y && smAmB (.tuple [x, y])) && smAmB (.tuple [x, y])) = true
  rw [h1, h2, h3]
  rfl
theorem ints_sm {a b : Int} (h1 : a.natAbs < 2 ^ 200) (h2 : b.natAbs < 2 ^ 200) : smAmB (.tuple [.int a, .int b]) = true := by
  show (decide (a.natAbs < 2 ^ 200) && decide (b.natAbs < 2 ^ 200)) = true
  rw [decide_eq_true h1, decide_eq_true h2]
  rfl
theorem pairs_ok {p q : Rat} (hp : Sz 190 p) (hq : Sz 190 q) : ∀ d ∈ pairs18 p q, okB d = true := by
  have sp := am_smB hp
  have sq := am_smB hq
  have h200 : 2 ^ 190 * 2 ≤ 2 ^ 200 := by decide
  have n2 : (q.num * 2).natAbs < 2 ^ 200 := by have := hq.1; rw [Int.natAbs_mul]; show q.num.natAbs * 2 < _; omega
  have d2 : ((q.den : Int) * 2).natAbs < 2 ^ 200 := by have := hq.2; rw [Int.natAbs_mul]; show q.den * 2 < _; omega
  have n1 : q.num.natAbs < 2 ^ 200 := by have := hq.1; omega
  intro d hd
  unfold pairs18 at hd
  simp only [List.mem_cons, List.not_mem_nil, or_false] at hd
  rcases hd with rfl | rfl | rfl | rfl | rfl | rfl | rfl | rfl | rfl | rfl | rfl | rfl | rfl | rfl | rfl | rfl | rfl | rfl
  · exact ok_pair sp sq rfl
  · exact ok_pair sq sp rfl
  · exact ok_pair sp sp rfl
  · rfl
  · rfl
  · rfl
  · rfl
  · rfl
  · exact ok_pair sp rfl rfl
  · exact ok_pair sp rfl rfl
  · exact ok_pair sp (ints_sm n1 (by decide)) rfl
  · exact ok_pair sp (ints_sm n2 d2) rfl
  · exact ok_pair rfl sq rfl
  · decide +kernel
  · decide +kernel
  · rfl
  · exact ok_pair rfl rfl sp
  · rfl
section
variable {P : Program} {w : World} {K : PySem.W.Frag} {mg : Str → Option Value} {base : Heap} {f : Addr} {fd : FuncData}
theorem bls_eqd {H : Hp} {a b : Addr} {x y : Bool} (h1 : SqL K H a [.bl x, .bl y]) (h2 : SqL K H b [.bl x, .bl y]) : Eqd K H 4 (.ref a) (.ref b) :=
  .lst h1 h2 rfl (show 2 ≤ 4000 by decide) fun i u v hx hy => by
    match i, hx, hy with
    | 0, hx, hy => cases hx; cases hy; exact .bl _ _
    | 1, hx, hy => cases hx; cases hy; exact .bl _ _
    | i + 2, hx, _ => cases hx
theorem man_or (ds : List PyData) : manD (.tuple ds) = (pairD (.tuple ds) || decide (ds.length = 0)) := by
  cases ds with
  | nil => rfl
  | cons x r => show pairD _ = (pairD _ || false); rw [Bool.or_false]
theorem man_nt {d : PyData} (h : ∀ ds, d ≠ .tuple ds) : manD d = pairD d := by
  cases d with
  | tuple ds => exact absurd rfl (h ds)
  | _ => rfl
theorem dq_len {S : List Addr} {H : Hp} : ∀ {xs : List V} {ds : List PyData}, DqAll K S H xs ds → xs.length = ds.length
  | _, _, .nil => rfl
  | _, _, .cons _ r => by rw [List.length_cons, List.length_cons, dq_len r]
abbrev s_law_manner_so : Stmt := top 46
theorem c_law_manner_so : FnScope ["_law_bag_here", "_law_a", "_law_b", "_law_x", "_law_y", "_law_one", "_law_due"] ["_law_bag_here"] (defScope s_law_manner_so) := ⟨rfl, rfl, rfl, by decide +kernel, rfl, by decide +kernel, by decide +kernel⟩
theorem f_law_manner_so (F : FunD K "_law_manner_so" "_law_manner_so" (defArgs s_law_manner_so) (defBody s_law_manner_so) (defScope s_law_manner_so) [] [] f fd) (hm : mg "_law_manner_so" = some (.ref f)) (T : Bt mg) (F_law_amount : Fn P w K mg base 4 "_law_amount" (spAmt K)) (F_law_of : Fn P w K mg base 2 "_law_of" (spOf K)) (F_law_odd : Fn P w K mg base 3 "_law_odd" (spOdd K)) (F_law_is_pair : Fn P w K mg base 3 "_law_is_pair" (spLIsPair K)) (Fis_manner : Fn P w K mg base 3 "is_manner" (spIsMan K)) (Xis_manner_0_value : FnX P w K mg base 3 "is_manner" 0 ["value"] [0] (spIsMan K)) (F_law_like : Fn P w K mg base 5 "_law_like" (spLike K 5)) : Fn P w K mg base 6 "_law_manner_so" (spSo K) := by
  refine fn_def F hm c_law_manner_so (fun vs H Q E h => ?_) (fun _ _ _ _ _ _ us hl => match us, hl with | [_], _ => rfl) (fun cdv A outer s H vs Q E hr h => ?_)
  · obtain ⟨b, rfl, _⟩ := h
    rfl
  · obtain ⟨b, rfl, hb, k⟩ := h
    have nd := c_law_manner_so.nd
    refine ⟨_, (pss_cons (ps_set (i := 1) nd rfl (by first | exact Or.inl rfl | exact Or.inr rfl) (pe_fn F_law_amount (hr.mono (by decide)) (pa_cons (pv 0) pa_nil)))
      (pss_cons (ps_set (i := 2) nd rfl (by first | exact Or.inl rfl | exact Or.inr rfl) (pe_fn F_law_of (hr.mono (by decide)) (pa_cons (pv 0) (pa_cons (pe_lst (pa_cons (pe_fn F_law_amount (hr.mono (by decide)) (pa_cons (pv 0) pa_nil)) (pa_cons (pv 1) pa_nil))) pa_nil))))
      (pss_cons (ps_set (i := 3) nd rfl (by first | exact Or.inl rfl | exact Or.inr rfl) (pe_fn F_law_of (hr.mono (by decide)) (pa_cons (pv 0) (pa_cons (pe_lst (pa_cons (pe_tup (pa_cons (pv 1) (pa_cons (pv 2) pa_nil))) (pa_cons (pe_tup (pa_cons (pv 2) (pa_cons (pv 1) pa_nil))) (pa_cons (pe_tup (pa_cons (pv 1) (pa_cons (pv 1) pa_nil))) (pa_cons (pe_tup pa_nil) (pa_cons (pe_lst pa_nil) (pa_cons (pe_lst (pa_cons (pv 1) (pa_cons (pv 2) pa_nil))) (pa_cons (pe_tup (pa_cons (pv 1) pa_nil)) (pa_cons (pe_tup (pa_cons (pv 1) (pa_cons (pv 2) (pa_cons (pv 2) pa_nil)))) (pa_cons (pe_tup (pa_cons (pv 1) (pa_cons pe_non pa_nil))) (pa_cons (pe_tup (pa_cons (pv 1) (pa_cons (pe_callTy cr_list (by rfl) T.list (by decide +kernel) (pa_cons (pv 2) pa_nil)) pa_nil))) (pa_cons (pe_tup (pa_cons (pv 1) (pa_cons (pe_tup (pa_cons (pe_ix ix_tup (pv 2) pe_int (fun _ _ => rfl)) (pa_cons pe_int pa_nil))) pa_nil))) (pa_cons (pe_tup (pa_cons (pv 1) (pa_cons (pe_tup (pa_cons (pe_op op_mul (pe_ix ix_tup (pv 2) pe_int (fun _ _ => rfl)) pe_int) (pa_cons (pe_op op_mul (pe_ix ix_tup (pv 2) pe_int (fun _ _ => rfl)) pe_int) pa_nil))) pa_nil))) (pa_cons (pe_tup (pa_cons pe_bl (pa_cons (pv 2) pa_nil))) (pa_cons (pe_tup (pa_cons (pe_tup (pa_cons pe_bl (pa_cons pe_int pa_nil))) (pa_cons (pe_tup (pa_cons pe_int (pa_cons pe_int pa_nil))) pa_nil))) (pa_cons (pe_tup (pa_cons (pe_tup (pa_cons pe_int (pa_cons pe_int pa_nil))) (pa_cons (pe_tup (pa_cons pe_bl (pa_cons pe_int pa_nil))) pa_nil))) (pa_cons (pe_tup (pa_cons (pe_tup pa_nil) (pa_cons (pe_tup pa_nil) pa_nil))) (pa_cons (pv 1) (pa_cons pe_str pa_nil))))))))))))))))))) pa_nil))))
      (pss_cons (ps_set (i := 4) nd rfl (by first | exact Or.inl rfl | exact Or.inr rfl) (pe_fn F_law_odd (hr.mono (by decide)) (pa_cons (pv 0) pa_nil)))
      (pss_cons (ps_for PassesOwn.never rfl (pi_list (pe_lst (pa_cons (pv 3) (pa_cons (pv 4) pa_nil)))) (pg_name (i := 5) nd rfl (by first | exact Or.inl rfl | exact Or.inr rfl))
        (pss_mid (ps_set (i := 6) nd rfl (by first | exact Or.inl rfl | exact Or.inr rfl) (pe_or (pe_fn F_law_is_pair (hr.mono (by decide)) (pa_cons (pv 5) pa_nil)) (pe_one (pe_and (pe_callB call_isi (by rfl) T.isinstance (by decide +kernel) (pa_cons (pv 5) (pa_cons (pe_bltn (v := .ty "tuple") (by rfl) T.tuple (by decide +kernel) rfl) pa_nil))) (pe_one (pe_cmpR op_eq (pe_callB cr_len (by rfl) T.len (by decide +kernel) (pa_cons (pv 5) pa_nil)) pe_int (nomark _)))))))
        (pss_one (ps_if (pt_not (pt_val (pe_fn F_law_like (hr.mono (by decide)) (pa_cons (pe_lst (pa_cons (pe_fn Fis_manner (hr.mono (by decide)) (pa_cons (pv 5) pa_nil)) (pa_cons (pe_fnX0 Xis_manner_0_value (hr.mono (by decide)) (pk_cons (pv 5) pk_nil)) pa_nil))) (pa_cons (pe_lst (pa_cons (pv 6) (pa_cons (pv 6) pa_nil))) pa_nil)))))
          (pss_one (ps_ret pe_bl))
          pss_nil))))
      (pss_one (ps_ret pe_bl))))))), ?_⟩
    show (_ : TS) _ [some _, none, none, none, none, none, none] _
    try dsimp only [cxOf, Cx.nox]
    walk_at "go"
    refine k_amt hb fun va p H1 aa pp sp b1 n1 => ?_
    walk_at "go"
    refine k_amt b1 fun v2 q2 H2 a2 p2 s2 b2 n2 => ?_
    walk_at "go"
    rename_i pl hpl
    refine of_am (qs := [q2, p]) (b2.new hpl) lstS (b2.ne hpl) (Ams.x0 (Ext.refl.new hpl) (Ams.cons a2 (Ams.cons (aa.b b1 n2) Ams.nil))) (Nat.zero_lt_succ _) (show 2 ≤ 4000 by decide) fun vb q H3 hq ab b3 n3 => ?_
    have oq : 0 ≤ q ∧ Sz 114 q := by
      simp only [List.mem_cons, List.not_mem_nil, or_false] at hq
      rcases hq with rfl | rfl
      · exact ⟨p2, s2⟩
      · exact ⟨pp, sp⟩
    have n13 : Ext [b.a] H1 H3 := n2.trans ((Ext.refl.new hpl).trans n3)
    have aa3 := aa.b b1 n13
    have n03 := n1.trans n13
    clear aa a2
    have ab' := ab
    obtain ⟨pb, rfl, hbt⟩ := ab
    walk_at "go"
    refine r_list (.inr (by walk_at "sq")) fun l hl => ?_
    walk_at "go"
    refine of_dq (ds := pairs18 p q) (by walk_at "bag") lstS (BagAt.ne' (K := K) (by assumption) (by walk_at "bag")) ?_ (List.all_eq_true.mpr (pairs_ok (sp.mono (by decide)) (oq.2.mono (by decide)))) (Nat.zero_lt_succ _) (show 18 ≤ 4000 by decide) fun vx dx H4 hx ox b4 n4 => ?_
    · unfold pairs18
      walk_at "dqs"
    have n04 : Ext [b.a] H H4 := n03.trans (Ext.trans (by walk_at "ext") n4)
    walk_at "go"
    refine ⟨b, rfl, b4, fun vy dy H5 hy oy b5 n5 => ?_⟩
    have hx5 := hx.b b4 n5
    have n05 := n04.trans n5
    walk_at "go"
    refine r_for ?_
    walk_at "go"
    rename_i pq hpq
    have m6 := (Ext.refl (S := []) (H := H5)).new (o := .lst [vx, vy]) hpq
    have hl6 : SqL K (upd H5 pq (.lst [vx, vy])) pq [vx, vy] := lstS
    have hx6 := hx5.x0 m6
    have hy6 := hy.x0 m6
    have b6 := b5.x0 m6
    have n06 := n05.trans m6.of0
    generalize upd H5 pq (.lst [vx, vy]) = H6 at *
    refine ⟨pq, rfl, ⟨_, hl6⟩, ?_⟩
    refine r_loopL (xs := [vx, vy]) (fun j σ' H' => Ext [] H6 H' ∧ ∃ (u5 u6 : Option V), σ' = [some (V.ref b.a), some va, some (.ref pb), some vx, some vy, u5, u6]) ⟨Ext.refl, _, _, rfl⟩ ?_ ?_ ?_
    · rintro j σ' H' hj ⟨n7, _⟩
      exact lst0 n7 hl6
    · rintro j v σ' H7 hv ⟨n7, u5, u6, rfl⟩
      obtain ⟨d, hd6, od⟩ : ∃ d, Dq K [b.a] H6 v d ∧ okB d = true := by
        match j, hv with
        | 0, hv => cases hv; exact ⟨dx, hx6, ox⟩
        | 1, hv => cases hv; exact ⟨dy, hy6, oy⟩
        | j + 2, hv => cases hv
      have hd := hd6.x0 n7
      have ods : smB d = true := by
        unfold okB at od
        exact (Bool.and_eq_true_iff.mp od).1
      refine r_mid (fun σ' H' => Ext [] H7 H' ∧ σ' = [some (V.ref b.a), some va, some (.ref pb), some vx, some vy, some v, some (.bl (manD d))]) ?_ ?_
      · walk_at "go"
        refine ⟨v, d, rfl, hd.dp, ods, fun H8 n8 => ?_⟩
        have hd8 := hd.x0 n8
        walk_at "go"
        cases hpd : pairD d with
        | true =>
          walk_at "run"
          have e : manD d = true := by
            rw [manD_eq, hpd]
            rfl
          rw [e]
          exact ⟨n8, rfl⟩
        | false =>
          cases hd8 with
          | non => walk_at "run"; exact ⟨n8, rfl⟩
          | bl b => walk_at "run"; exact ⟨n8, rfl⟩
          | int i => walk_at "run"; exact ⟨n8, rfl⟩
          | str x => walk_at "run"; exact ⟨n8, rfl⟩
          | lst na h g => walk_at "run"; exact ⟨n8, rfl⟩
          | tup h g =>
            rename_i ya ys es
            walk_at "run"
            try refine r_len (.inr h) ?_
            walk_at "run"
            have e : manD (.tuple es) = decide (V.int (ys.length : Int) = V.int 0) := by
              rw [man_or, hpd, Bool.false_or, Bool.eq_iff_iff, decide_eq_true_iff, decide_eq_true_iff, dq_len g]
              constructor
              · intro z; rw [z]; rfl
              · intro z; have := V.int.inj z; omega
            rw [e]
            exact ⟨n8, rfl⟩
      · rintro σ' H8 ⟨n8, rfl⟩
        have hd8 := hd.x0 n8
        walk_at "go"
        refine ⟨v, d, rfl, hd8.dp, ods, ?_⟩
        walk_at "go"
        refine ⟨[_], rfl, ?_⟩
        refine ⟨v, d, rfl, hd8.dp, ods, ?_⟩
        walk_at "go"
        rename_i l1 hl1 l2 hl2
        have m9 := ((Ext.refl (S := []) (H := H8)).new (o := .lst [.bl (manD d), .bl (manD d)]) hl1).new (o := .lst [.bl (manD d), .bl (manD d)]) hl2
        refine k_like (bls_eqd (by walk_at "sq") lstS) fun H9 n9 => ?_
        walk_at "run"
        exact ⟨(n7.trans n8).trans (m9.trans n9), _, _, rfl⟩
    · rintro σ' H7 ⟨n7, u5, u6, rfl⟩
      walk_at "go"
      exact k H7 (b6.x0 n7) (n06.trans n7.of0)
abbrev s_law_total_so : Stmt := top 47
theorem c_law_total_so : FnScope ["_law_bag_here", "_law_rows", "_law_x", "_law_due", "_law_handed", "_law_told", "_law_more_here"] ["_law_bag_here"] (defScope s_law_total_so) := ⟨rfl, rfl, rfl, by decide +kernel, rfl, by decide +kernel, by decide +kernel⟩
theorem f_law_total_so (F : FunD K "_law_total_so" "_law_total_so" (defArgs s_law_total_so) (defBody s_law_total_so) (defScope s_law_total_so) [] [] f fd) (hm : mg "_law_total_so" = some (.ref f)) (T : Bt mg) (F_law_wishes : Fn P w K mg base 6 "_law_wishes" (spWishes K)) (F_law_grid : Fn P w K mg base 3 "_law_grid" (spGrid K)) (F_law_of : Fn P w K mg base 2 "_law_of" (spOf K)) (F_law_amount : Fn P w K mg base 4 "_law_amount" (spAmt K)) (F_law_bit : Fn P w K mg base 3 "_law_bit" (spBit K)) (F_law_breaks : Fn P w K mg base 2 "_law_breaks" (spLBreaks K)) (F_law_total : Fn P w K mg base 4 "_law_total" (spLTotalW K)) (Ftotal : Fn P w K mg base 4 "total" (spTotalW K)) (Stotal : FnS P w K mg base 4 "total" ["level", "wishes"] (spTotalW K)) (F_law_mixed : Fn P w K mg base 2 "_law_mixed" (spMixed K)) (F_law_draw : Fn P w K mg base 1 "_law_draw" (spDraw K)) (F_law_like : Fn P w K mg base 5 "_law_like" (spLike K 5)) : Fn P w K mg base 7 "_law_total_so" (spSo K) := by
  refine fn_def F hm c_law_total_so (fun vs H Q E h => ?_) (fun _ _ _ _ _ _ us hl => match us, hl with | [_], _ => rfl) (fun cdv A outer s H vs Q E hr h => ?_)
  · obtain ⟨b, rfl, _⟩ := h
    rfl
  · obtain ⟨b, rfl, hb, k⟩ := h
    have nd := c_law_total_so.nd
    refine ⟨_, (pss_cons (ps_set (i := 1) nd rfl (by first | exact Or.inl rfl | exact Or.inr rfl) (pe_fn F_law_wishes (hr.mono (by decide)) (pa_cons (pv 0) (pa_cons pe_int (pa_cons (pe_fn F_law_grid (hr.mono (by decide)) (pa_cons (pv 0) pa_nil)) pa_nil)))))
      (pss_cons (ps_set (i := 2) nd rfl (by first | exact Or.inl rfl | exact Or.inr rfl) (pe_fn F_law_of (hr.mono (by decide)) (pa_cons (pv 0) (pa_cons (pe_lst (pa_cons (pe_fn F_law_amount (hr.mono (by decide)) (pa_cons (pv 0) pa_nil)) (pa_cons (pe_fn F_law_bit (hr.mono (by decide)) (pa_cons (pv 0) pa_nil)) (pa_cons (pe_fn F_law_of (hr.mono (by decide)) (pa_cons (pv 0) (pa_cons (pe_fn F_law_breaks (hr.mono (by decide)) (pa_cons (pv 1) pa_nil)) pa_nil))) (pa_cons (pe_tup (pa_cons pe_int (pa_cons pe_int pa_nil))) (pa_cons (pe_tup (pa_cons pe_int (pa_cons pe_int pa_nil))) pa_nil)))))) pa_nil))))
      (pss_cons (ps_set (i := 3) nd rfl (by first | exact Or.inl rfl | exact Or.inr rfl) (pe_fn F_law_total (hr.mono (by decide)) (pa_cons (pv 1) (pa_cons (pv 2) pa_nil))))
      (pss_cons (ps_set (i := 4) nd rfl (by first | exact Or.inl rfl | exact Or.inr rfl) (pe_callTy cr_list (by rfl) T.list (by decide +kernel) (pa_cons (pv 1) pa_nil)))
      (pss_cons (ps_set (i := 5) nd rfl (by first | exact Or.inl rfl | exact Or.inr rfl) (pe_lst (pa_cons (pe_fn Ftotal (hr.mono (by decide)) (pa_cons (pv 4) (pa_cons (pv 2) pa_nil))) (pa_cons (pe_fn Ftotal (hr.mono (by decide)) (pa_cons (pe_callTy cr_tuple (by rfl) T.tuple (by decide +kernel) (pa_cons (pv 1) pa_nil)) (pa_cons (pv 2) pa_nil))) (pa_cons (pe_fnS Stotal (hr.mono (by decide)) (pk_cons (pv 2) (pk_cons (pe_fn F_law_mixed (hr.mono (by decide)) (pa_cons (pv 0) (pa_cons (pv 1) pa_nil))) pk_nil))) pa_nil)))))
      (pss_mid (ps_if (PW.pt (pw_or (pt_not (pt_val (pe_fn F_law_like (hr.mono (by decide)) (pa_cons (pv 5) (pa_cons (pe_lst (pa_cons (pv 3) (pa_cons (pv 3) (pa_cons (pv 3) pa_nil)))) pa_nil))))) (pw_or1 (pt_not (pt_val (pe_fn F_law_like (hr.mono (by decide)) (pa_cons (pv 4) (pa_cons (pv 1) pa_nil))))))))
        (pss_one (ps_ret pe_bl))
        pss_nil)
      (pss_cons (ps_set (i := 6) nd rfl (by first | exact Or.inl rfl | exact Or.inr rfl) (pe_tup (pa_cons (pe_tup (pa_cons (pv 2) (pa_cons (pv 2) pa_nil))) (pa_cons (pe_op op_add pe_int (pe_fn F_law_draw (hr.mono (by decide)) (pa_cons (pv 0) (pa_cons pe_int pa_nil)))) (pa_cons (pe_fn F_law_bit (hr.mono (by decide)) (pa_cons (pv 0) pa_nil)) pa_nil)))))
      (pss_cons (ps_expr (pe_bm PySem.F.plainAttrs_list PySem.F.slot_list_insert PySem.F.type_list_insert mt_insert (pv 4) (pa_cons (pe_fn F_law_draw (hr.mono (by decide)) (pa_cons (pv 0) (pa_cons (pe_op op_add (pe_callB cr_len (by rfl) T.len (by decide +kernel) (pa_cons (pv 4) pa_nil)) pe_int) pa_nil))) (pa_cons (pv 6) pa_nil))))
      (pss_one (ps_ret (pe_fn F_law_like (hr.mono (by decide)) (pa_cons (pe_lst (pa_cons (pe_fn Ftotal (hr.mono (by decide)) (pa_cons (pv 4) (pa_cons (pv 2) pa_nil))) (pa_cons (pe_fn Ftotal (hr.mono (by decide)) (pa_cons (pe_lst pa_nil) (pa_cons (pv 2) pa_nil))) pa_nil))) (pa_cons (pe_lst (pa_cons (pe_fn F_law_total (hr.mono (by decide)) (pa_cons (pe_op op_cat (pv 1) (pe_lst (pa_cons (pv 6) pa_nil))) (pa_cons (pv 2) pa_nil))) (pa_cons (pe_tup (pa_cons pe_int (pa_cons pe_int pa_nil))) pa_nil))) pa_nil))))))))))))), ?_⟩
    show (_ : TS) _ [some _, none, none, none, none, none, none] _
    try dsimp only [cxOf, Cx.nox]
    walk_at "go"
    refine ⟨b, rfl, hb, fun g H1 g0 g9 b1 n1 => ?_⟩
    walk_at "go"
    refine ⟨b, 6, g, rfl, b1, by decide, g0, g9, fun c xs rows H2 hc1 hc hrows hok hlen b2 n2 => ?_⟩
    have G : GR g rows := ⟨g0, g9, hok, by omega⟩
    have lx := hrows.1
    have ncb : c ≠ b.a := (b1.ne hc1).symm
    have D0 : 0 < 12 * g := by omega
    have D9 : 12 * g ≤ 2 ^ 64 := Nat.le_trans (Nat.mul_le_mul_left 12 g9) (by decide)
    have E0 : 0 < 665280 * g := by omega
    have E9 : 665280 * g ≤ 2 ^ 80 := Nat.le_trans (Nat.mul_le_mul_left 665280 g9) (by decide)
    walk_at "go"
    refine k_amt b2 fun v3 q3 H3 a3 p3 s3 b3 n3 => ?_
    walk_at "go"
    refine k_bit b3 fun v4 q4 H4 a4 i4 b4 n4 => ?_
    walk_at "go"
    have n24 := n3.trans n4
    have hc4 : H4 c = some (.lst xs) := n24 _ _ hc (by simpa using ncb)
    refine ⟨c, xs, rows, 12 * g, 665280 * g, 4096, rfl, .inl (.inl hc4), hrows.b b2 n24, G.row, G.n, dvE, E0, G.E9, by decide, by decide, fun cb zs rs H5 hcb hzs ars B n5 => ?_⟩
    walk_at "go"
    refine of_am (b4.x0 n5) (.inl (.inl hzs)) (b4.ne hcb) ars B.z (Nat.le_trans B.n (by decide)) fun v6 q6 H6 hq6 a6 b6 n6 => ?_
    walk_at "go"
    rename_i p1 hp1 p2 hp2 pl hpl
    have n46 : Ext [b.a] H4 H6 := n5.of0.trans n6
    have e7 : Ext [] H6 (upd (upd (upd H6 p1 (.tup [.int 0, .int 1])) p2 (.tup [.int 1000, .int 1])) pl (.lst [v3, v4, v6, .ref p1, .ref p2])) := by walk_at "ext"
    have t1 : Am K (upd (upd (upd H6 p1 (.tup [.int 0, .int 1])) p2 (.tup [.int 1000, .int 1])) pl (.lst [v3, v4, v6, .ref p1, .ref p2])) (.ref p1) 0 := ⟨p1, rfl, by walk_at "sq"⟩
    have t2 : Am K (upd (upd (upd H6 p1 (.tup [.int 0, .int 1])) p2 (.tup [.int 1000, .int 1])) pl (.lst [v3, v4, v6, .ref p1, .ref p2])) (.ref p2) 1000 := ⟨p2, rfl, by walk_at "sq"⟩
    refine of_am (qs := [q3, q4, q6, 0, 1000]) (b6.x0 e7) lstS (((b6.new hp1).new hp2).ne hpl) (Ams.cons ((a3.b b3 (n4.trans n46)).x0 e7) (Ams.cons ((a4.b b4 n46).x0 e7) (Ams.cons (a6.x0 e7) (Ams.cons t1 (Ams.cons t2 Ams.nil))))) (Nat.zero_lt_succ _) (show 5 ≤ 4000 by decide) fun vx x H8 hx ax b8 n8 => ?_
    have n28 : Ext [b.a] H2 H8 := n24.trans (n46.trans (e7.of0.trans n8))
    have n08 : Ext [b.a] H H8 := (n1.trans n2).trans n28
    have hc8 : H8 c = some (.lst xs) := n28 _ _ hc (by simpa using ncb)
    have r8 := hrows.b b2 n28
    obtain ⟨X, X0, X9, dX, ix⟩ : ∃ X, 0 < X ∧ X ≤ 2 ^ 300 ∧ 12 * g ∣ X ∧ In X (2 ^ 114) x := by
      simp only [List.mem_cons, List.not_mem_nil, or_false] at hx
      rcases hx with rfl | rfl | rfl | rfl | rfl
      · exact ⟨12 * g * x.den, Nat.mul_pos D0 x.den_pos, Nat.le_trans (Nat.mul_le_mul D9 (Nat.le_of_lt s3.2)) (by decide), Nat.dvd_mul_right _ _, (in_any p3 s3).up (Nat.dvd_mul_left _ _)⟩
      · exact ⟨12 * g, D0, Nat.le_trans D9 (by decide), Nat.dvd_refl _, (i4.up (Nat.dvd_mul_right _ _)).most (by decide)⟩
      · exact ⟨665280 * g, E0, Nat.le_trans E9 (by decide), dvDE, (B.inn _ hq6).1.most (by decide)⟩
      · exact ⟨12 * g, D0, Nat.le_trans D9 (by decide), Nat.dvd_refl _, In.zero⟩
      · exact ⟨12 * g, D0, Nat.le_trans D9 (by decide), Nat.dvd_refl _, In.nat (n := 1000) (by decide)⟩
    have T : TotW X (2 ^ 114) (2 ^ 114) rows x := ⟨X0, X9, by decide, by decide, fun r hr => ((G.row r hr).up dX).mostW (by decide), ix, G.n⟩
    clear a3 a4 a6 t1 t2 hrows
    walk_at "go"
    refine ⟨c, xs, rows, vx, x, X, 2 ^ 114, 2 ^ 114, rfl, .inl (.inl hc8), r8, ax, T, fun vd H9 n9 ad => ?_⟩
    walk_at "go"
    have hc9 := n9 _ _ hc8 fun z => nomatch z
    refine r_list (.inl (.inl (.inl hc9))) fun l hl9 => ?_
    walk_at "go"
    have m10 := (Ext.refl (S := []) (H := H9)).new (o := .lst xs) hl9
    have hl10 : upd H9 l (.lst xs) l = some (.lst xs) := upd_same
    have n810 := n9.trans m10
    have hl8 : H8 l = none := n9.free hl9
    have nlc : c ≠ l := ne_of_none hc9 hl9
    have nlb : l ≠ b.a := ((b8.x0 n9).ne hl9).symm
    have ad10 := ad.x0 m10
    generalize upd H9 l (.lst xs) = H10 at *
    refine ⟨l, xs, rows, vx, x, X, 2 ^ 114, 2 ^ 114, rfl, .inl (.inl (.inl hl10)), r8.x0 n810, ax.x0 n810, T, fun w1 H11 n11 b11 => ?_⟩
    have b11 : Am K H11 w1 (tot rows x) := b11
    walk_at "go"
    have n811 := n810.trans n11
    refine r_tupleL (.inl (.inl (n811 _ _ hc8 fun z => nomatch z))) fun t ht => ?_
    walk_at "go"
    have m12 := (Ext.refl (S := []) (H := H11)).new (o := .tup xs) ht
    have n812 := n811.trans m12
    refine ⟨t, xs, rows, vx, x, X, 2 ^ 114, 2 ^ 114, rfl, .inr tupS, r8.x0 n812, ax.x0 n812, T, fun w2 H13 n13 b13 => ?_⟩
    have b13 : Am K H13 w2 (tot rows x) := b13
    walk_at "go"
    have n813 := n812.trans n13
    refine k_mixed (b8.x0 n813) (n813 _ _ hc8 fun z => nomatch z) ncb (by omega) fun pm ys H14 pperm hpm hys b14 n14 => ?_
    obtain ⟨rows', r14, pr⟩ := Rel.perm pperm (r8.b b8 (n813.of0.trans n14))
    have n814 : Ext [b.a] H8 H14 := n813.of0.trans n14
    have T' : TotW X (2 ^ 114) (2 ^ 114) rows' x := ⟨X0, X9, by decide, by decide, fun r hr => T.row r (pr.subset hr), ix, by rw [pr.length_eq]; exact G.n⟩
    walk_at "go"
    try refine ⟨_, _, rfl, ?_⟩
    refine ⟨pm, ys, rows', vx, x, X, 2 ^ 114, 2 ^ 114, rfl, .inl (.inl (.inl hys)), r14, ax.b b8 n814, T', fun w3 H15 n15 b15 => ?_⟩
    rw [tot_perm pr] at b15
    walk_at "go"
    rename_i d hd
    have m16 := (Ext.refl (S := []) (H := H15)).new (o := .lst [w1, w2, w3]) hd
    have hd16 : upd H15 d (.lst [w1, w2, w3]) d = some (.lst [w1, w2, w3]) := upd_same
    have n1016 : Ext [b.a] H10 (upd H15 d (.lst [w1, w2, w3])) := ((n11.trans m12).trans n13).of0.trans (n14.trans (n15.trans m16).of0)
    have n1316 : Ext [b.a] H13 (upd H15 d (.lst [w1, w2, w3])) := n14.trans (n15.trans m16).of0
    have n1116 : Ext [b.a] H11 (upd H15 d (.lst [w1, w2, w3])) := (m12.trans n13).of0.trans n1316
    have n816 : Ext [b.a] H8 (upd H15 d (.lst [w1, w2, w3])) := n814.trans (n15.trans m16).of0
    have c1 := b11.b (b8.x0 n811) n1116
    have c2 := b13.b (b8.x0 n813) n1316
    have c3 := b15.x0 m16
    have ad16 := ad10.b (b8.x0 n810) n1016
    have b16 := (b14.x0 n15).x0 m16
    have hl16 : upd H15 d (.lst [w1, w2, w3]) l = some (.lst xs) := n1016 _ _ hl10 (by simpa using nlb)
    have hc16 : upd H15 d (.lst [w1, w2, w3]) c = some (.lst xs) := n816 _ _ hc8 (by simpa using ncb)
    have r16 := r8.b b8 n816
    have ax16 := ax.b b8 n816
    have n016 := n08.trans n816
    generalize upd H15 d (.lst [w1, w2, w3]) = H16 at *
    refine r_mid (fun σ' H' => Ext [] H16 H' ∧ σ' = [some (V.ref b.a), some (.ref c), some vx, some vd, some (.ref l), some (.ref d), none]) ?_ ?_
    · walk_at "go"
      rename_i d2 hd2
      have m17 := (Ext.refl (S := []) (H := H16)).new (o := .lst [vd, vd, vd]) hd2
      refine k_like (ams_eqd (xs := [w1, w2, w3]) (ys := [vd, vd, vd]) (qs := [tot rows x, tot rows x, tot rows x]) (.inl (.inl (m17 _ _ hd16 fun z => nomatch z))) lstS (Ams.x0 m17 (Ams.cons c1 (Ams.cons c2 (Ams.cons c3 Ams.nil)))) (Ams.x0 m17 (Ams.cons ad16 (Ams.cons ad16 (Ams.cons ad16 Ams.nil)))) (by show 3 ≤ 4000; decide) 2) fun H18 n18 => ?_
      walk_at "run"
      have n1618 := m17.trans n18
      refine k_like (rows_eqd (.inl (.inl (n1618 _ _ hl16 fun z => nomatch z))) (.inl (.inl (n1618 _ _ hc16 fun z => nomatch z))) (r16.x0 n1618) (r16.x0 n1618) (by omega)) fun H19 n19 => ?_
      walk_at "run"
      exact ⟨n1618.trans n19, rfl⟩
    · rintro σ' H17 ⟨n17, rfl⟩
      have b17 := b16.x0 n17
      have n817 := n816.trans n17.of0
      have hl17 := n17 _ _ hl16 fun z => nomatch z
      have hc17 := n17 _ _ hc16 fun z => nomatch z
      walk_at "go"
      rename_i pp hpp
      have m18 := (Ext.refl (S := []) (H := H17)).new (o := .tup [vx, vx]) hpp
      have hm18 : ManIs K (upd H17 pp (.tup [vx, vx])) (.ref pp) (some (x, x)) := ⟨pp, vx, vx, rfl, tupS, (ax16.x0 n17).x0 m18, (ax16.x0 n17).x0 m18⟩
      have b18 := b17.x0 m18
      generalize upd H17 pp (.tup [vx, vx]) = H18 at *
      refine k_draw b18 (by decide) (by decide) fun x19 H19 l19 u19 b19 n19 => ?_
      obtain ⟨wt, ew⟩ : ∃ wt : Nat, 1 + x19 = (wt : Int) := ⟨(1 + x19).toNat, by omega⟩
      have w0 : 0 < wt := by omega
      have w12 : wt ≤ 12 := by omega
      walk_at "go"
      rw [ew]
      refine k_bit b19 fun v20 q20 H20 a20 i20 b20 n20 => ?_
      walk_at "go"
      rename_i pr1 hpr1
      have m21 := (Ext.refl (S := []) (H := H20)).new (o := .tup [.ref pp, .int (wt : Int), v20]) hpr1
      have n1820 := n19.trans n20
      have hr21 : RowIs K (upd H20 pr1 (.tup [.ref pp, .int (wt : Int), v20])) (.ref pr1) ⟨some (x, x), wt, q20⟩ := ⟨pr1, .ref pp, v20, rfl, tupS, (hm18.b b18 n1820).x0 m21, a20.x0 m21⟩
      have b21 := b20.x0 m21
      have n1721 : Ext [b.a] H17 (upd H20 pr1 (.tup [.ref pp, .int (wt : Int), v20])) := m18.of0.trans (n1820.trans m21.of0)
      generalize upd H20 pr1 (.tup [.ref pp, .int (wt : Int), v20]) = H21 at *
      have n821 := n817.trans n1721
      have hl21 := n1721 _ _ hl17 (by simpa using nlb)
      have ro : RowOk X (2 ^ 114) ⟨some (x, x), wt, q20⟩ := ⟨w0, w12, (i20.up (Nat.dvd_trans (Nat.dvd_mul_right 12 g) dX)).most (by decide), fun l u e => by cases e; exact ⟨ix, ix⟩⟩
      walk_at "go"
      refine ⟨ty_lst hl21, ?_⟩
      walk_at "go"
      try refine r_len (.inl (.inl (.inl hl21))) ?_
      walk_at "go"
      refine k_draw b21 (by omega) (Int.lt_of_le_of_lt (by omega : (xs.length : Int) + 1 ≤ 4000) (by decide)) fun x2 H22 l2 u2 b22 n22 => ?_
      have n822 := n821.trans n22
      have hl22 := n22 _ _ hl21 (by simpa using nlb)
      have hc22 := n822 _ _ hc8 (by simpa using ncb)
      have r22 := r8.b b8 n822
      have hr22 := hr21.b b21 n22
      have ax22 := ax.b b8 n822
      walk_at "go"
      refine ⟨l, xs, x2, _, rfl, rfl, hl22, Nat.lt_of_le_of_lt (by omega : xs.length ≤ 4000) (by decide), l2, by omega, ?_⟩
      walk_at "go"
      have r23 : RowsIs K (upd H22 l (.lst (xs.take x2.toNat ++ [.ref pr1] ++ xs.drop x2.toNat))) (xs.take x2.toNat ++ [.ref pr1] ++ xs.drop x2.toNat) (rows.take x2.toNat ++ [⟨some (x, x), wt, q20⟩] ++ rows.drop x2.toNat) :=
        ((Rel.take (r22.w hl22) _).app (.cons (hr22.w hl22) .nil)).app (Rel.drop (r22.w hl22) _)
      have r23' := (r22.w (l' := xs.take x2.toNat ++ [.ref pr1] ++ xs.drop x2.toNat) hl22)
      have hr23 := hr22.w (l' := xs.take x2.toNat ++ [.ref pr1] ++ xs.drop x2.toNat) hl22
      have ax23 := ax22.w (l' := xs.take x2.toNat ++ [.ref pr1] ++ xs.drop x2.toNat) hl22
      have hl23 : upd H22 l (.lst (xs.take x2.toNat ++ [.ref pr1] ++ xs.drop x2.toNat)) l = some (.lst (xs.take x2.toNat ++ [.ref pr1] ++ xs.drop x2.toNat)) := upd_same
      have hc23 : upd H22 l (.lst (xs.take x2.toNat ++ [.ref pr1] ++ xs.drop x2.toNat)) c = some (.lst xs) := by rw [upd_ne nlc]; exact hc22
      have b23 : BagAt K (upd H22 l (.lst (xs.take x2.toNat ++ [.ref pr1] ++ xs.drop x2.toNat))) b := b8.own hl8 b22
      have n023 : Ext [b.a] H (upd H22 l (.lst (xs.take x2.toNat ++ [.ref pr1] ++ xs.drop x2.toNat))) := n08.trans (n822.own hl8)
      have pp' : (rows.take x2.toNat ++ [(⟨some (x, x), wt, q20⟩ : Row)] ++ rows.drop x2.toNat).Perm (rows ++ [(⟨some (x, x), wt, q20⟩ : Row)]) := (permG rows _ _).trans (List.perm_append_comm (l₁ := [(⟨some (x, x), wt, q20⟩ : Row)]) (l₂ := rows))
      have T1 : TotW X (2 ^ 114) (2 ^ 114) (rows ++ [⟨some (x, x), wt, q20⟩]) x := ⟨X0, X9, by decide, by decide, fun r hr => by
        rcases List.mem_append.mp hr with h | h
        · exact T.row r h
        · rw [List.mem_singleton.mp h]; exact ro, ix, by rw [List.length_append]; show rows.length + 1 ≤ 8; omega⟩
      have T2 : TotW X (2 ^ 114) (2 ^ 114) (rows.take x2.toNat ++ [⟨some (x, x), wt, q20⟩] ++ rows.drop x2.toNat) x := ⟨X0, X9, by decide, by decide, fun r hr => T1.row r (pp'.subset hr), ix, by rw [pp'.length_eq]; exact T1.n⟩
      generalize upd H22 l (.lst (xs.take x2.toNat ++ [.ref pr1] ++ xs.drop x2.toNat)) = H23 at *
      refine ⟨l, _, _, vx, x, X, 2 ^ 114, 2 ^ 114, rfl, .inl (.inl (.inl hl23)), r23, ax23, T2, fun w4 H24 n24 b24 => ?_⟩
      rw [tot_perm pp'] at b24
      walk_at "go"
      rename_i en hen
      have m25 := (Ext.refl (S := []) (H := H24)).new (o := .lst []) hen
      have n2325 := n24.trans m25
      have T0 : TotW X (2 ^ 114) (2 ^ 114) [] x := ⟨X0, X9, by decide, by decide, fun r hr => absurd hr (by simp), ix, by decide⟩
      refine ⟨en, [], [], vx, x, X, 2 ^ 114, 2 ^ 114, rfl, .inl lstS, Rel.nil, ax23.x0 n2325, T0, fun w5 H26 n26 b26 => ?_⟩
      have b26 : Am K H26 w5 0 := b26
      walk_at "go"
      rename_i l7 hl7 l8 hl8'
      have m27 := ((Ext.refl (S := []) (H := H26)).new (o := .lst [w4, w5]) hl7).new (o := .lst [.ref pr1]) hl8'
      have q7 : SqL K (upd (upd H26 l7 (.lst [w4, w5])) l8 (.lst [.ref pr1])) l7 [w4, w5] := by walk_at "sq"
      have q8 : upd (upd H26 l7 (.lst [w4, w5])) l8 (.lst [.ref pr1]) l8 = some (.lst [.ref pr1]) := upd_same
      generalize upd (upd H26 l7 (.lst [w4, w5])) l8 (.lst [.ref pr1]) = H27 at *
      have n2327 := n2325.trans (n26.trans m27)
      refine ⟨c, l8, xs, [.ref pr1], rfl, rfl, n2327 _ _ hc23 (fun z => nomatch z), q8, Nat.le_trans (by show xs.length + 1 ≤ 9; omega) (by decide), fun r hr => ?_⟩
      have m28 := (Ext.refl (S := []) (H := H27)).new (o := .lst (xs ++ [.ref pr1])) hr
      have n2328 := n2327.trans m28
      walk_at "go"
      refine ⟨r, _, rows ++ [⟨some (x, x), wt, q20⟩], vx, x, X, 2 ^ 114, 2 ^ 114, rfl, lstS, Rel.snoc (r23'.x0 n2328) (hr23.x0 n2328), ax23.x0 n2328, T1, fun w6 H29 n29 b29 => ?_⟩
      have b29 : Am K H29 w6 (tot (rows ++ [⟨some (x, x), wt, q20⟩]) x) := b29
      walk_at "go"
      rename_i z1 hz1 l9 hl9'
      have m30 := ((Ext.refl (S := []) (H := H29)).new (o := .tup [.int 0, .int 1]) hz1).new (o := .lst [w6, .ref z1]) hl9'
      have tz : Am K (upd (upd H29 z1 (.tup [.int 0, .int 1])) l9 (.lst [w6, .ref z1])) (.ref z1) 0 := ⟨z1, rfl, by walk_at "sq"⟩
      have q9 : SqL K (upd (upd H29 z1 (.tup [.int 0, .int 1])) l9 (.lst [w6, .ref z1])) l9 [w6, .ref z1] := lstS
      generalize upd (upd H29 z1 (.tup [.int 0, .int 1])) l9 (.lst [w6, .ref z1]) = H30 at *
      have n2730 := m28.trans (n29.trans m30)
      have n2630 := m27.trans n2730
      refine k_like (ams_eqd (xs := [w4, w5]) (ys := [w6, .ref z1]) (qs := [tot (rows ++ [⟨some (x, x), wt, q20⟩]) x, 0]) (lst0 n2730 q7) q9 (Ams.cons (b24.x0 (m25.trans (n26.trans n2630))) (Ams.cons (b26.x0 n2630) Ams.nil)) (Ams.cons (b29.x0 m30) (Ams.cons tz Ams.nil)) (by show 2 ≤ 4000; decide) 2) fun H31 n31 => ?_
      have n2331 := (n2327.trans n2730).trans n31
      exact k H31 (b23.x0 n2331) (n023.trans n2331.of0)
end
end Yk

set_option maxHeartbeats 8000000
namespace Yk
open PySem PySem.Spec PyProof.Rows L2

section
variable {P : Program} {w : World} {K : PySem.W.Frag} {mg : Str → Option Value} {base : Heap} {f : Addr} {fd : FuncData}
def spLaw01 (K : PySem.W.Frag) : Sp := fun vs H Q _ => ∃ (a : Addr) (ns : List Int), vs = [.ref a] ∧ SqL K H a (ns.map V.int) ∧ ns.length ≤ 63 ∧ ∀ H', Q (.bl true) H'
abbrev s_law : Stmt := top 48
theorem c_law : FnScope ["_law_script", "_law_bag_here", "_law_turn"] ["_law_script"] (defScope s_law) := ⟨rfl, rfl, rfl, by decide +kernel, rfl, by decide +kernel, by decide +kernel⟩
theorem f_law (F : FunD K "law" "law" (defArgs s_law) (defBody s_law) (defScope s_law) [] [] f fd) (hm : mg "law" = some (.ref f)) (T : Bt mg) (F_law_bag : Fn P w K mg base 1 "_law_bag" (spBag K)) (F_law_share_so : Fn P w K mg base 6 "_law_share_so" (spSo K)) (F_law_cut_so : Fn P w K mg base 6 "_law_cut_so" (spSo K)) (F_law_manner_so : Fn P w K mg base 6 "_law_manner_so" (spSo K)) (F_law_total_so : Fn P w K mg base 7 "_law_total_so" (spSo K)) : FnOk P w K mg base CX0 12 f fd ["_law_script"] (spLaw01 K) := by
  refine ok_def F c_law (fun vs H Q E h => ?_) (fun cdv A outer s H vs Q E hr h => ?_)
  · obtain ⟨a, ns, rfl, _⟩ := h
    rfl
  · obtain ⟨a, ns, rfl, hl, h63, k⟩ := h
    have nd := c_law.nd
    refine ⟨_, (pss_cons (ps_set (i := 1) nd rfl (by first | exact Or.inl rfl | exact Or.inr rfl) (pe_fn F_law_bag (hr.mono (by decide)) (pa_cons (pv 0) pa_nil)))
      (pss_cons (ps_for PassesOwn.never rfl (pi_range1 rfl T.range (pa_cons pe_int pa_nil)) (pg_name (i := 2) nd rfl (by first | exact Or.inl rfl | exact Or.inr rfl))
        (pss_one (ps_if (PW.pt (pw_or (pt_not (pt_val (pe_fn F_law_share_so (hr.mono (by decide)) (pa_cons (pv 1) pa_nil)))) (pw_or (pt_not (pt_val (pe_fn F_law_cut_so (hr.mono (by decide)) (pa_cons (pv 1) pa_nil)))) (pw_or (pt_not (pt_val (pe_fn F_law_manner_so (hr.mono (by decide)) (pa_cons (pv 1) pa_nil)))) (pw_or1 (pt_not (pt_val (pe_fn F_law_total_so (hr.mono (by decide)) (pa_cons (pv 1) pa_nil)))))))))
          (pss_one (ps_ret pe_bl))
          pss_nil)))
      (pss_one (ps_ret pe_bl)))), ?_⟩
    show (_ : TS) _ [some _, none, none] _
    try dsimp only [cxOf, Cx.nox]
    walk_at "go"
    refine ⟨a, ns, rfl, hl, h63, fun b H1 hn e1 hb1 => ?_⟩
    walk_at "go"
    refine r_for ?_
    walk_at "go"
    refine ⟨_, rfl, by omega, by omega, ?_⟩
    refine r_loopR (fun i σ H1 => ∃ (o2 : Option V), BagAt K H1 b ∧ σ = [some (V.ref a), some (V.ref b.a), o2]) ⟨_, hb1, rfl⟩ ?_ ?_
    · rintro i σ H0 hi ⟨o2, hb0, rfl⟩
      walk_at "go"
      refine ⟨b, rfl, hb0, fun H2 b2 n2 => ?_⟩
      walk_at "run"
      refine ⟨b, rfl, b2, fun H3 b3 n3 => ?_⟩
      walk_at "run"
      refine ⟨b, rfl, b3, fun H4 b4 n4 => ?_⟩
      walk_at "run"
      refine ⟨b, rfl, b4, fun H5 b5 n5 => ?_⟩
      walk_at "run"
      exact ⟨_, b5, rfl⟩
    · rintro σ H1 ⟨o2, hb0, rfl⟩
      walk_at "go"
      exact k _
end
end Yk

set_option maxHeartbeats 0
namespace YkHead
open PySem PySem.Spec PyProof.Rows L2 Yk
def dD (x : Str) (i : Nat) : He.DefD := ⟨(x, none), x, x, defArgs (top i), defBody (top i), defScope (top i), [], []⟩
def fn0 : List He.DefD := [dD "is_number" 2, dD "is_amount" 5, dD "plus" 6, dD "_added" 7, dD "times" 8, dD "_product" 9, dD "compare" 10, dD "smallest" 11, dD "largest" 12, dD "is_manner" 14, dD "share" 15, dD "cut_manner" 16, dD "total" 17, dD "_law_bag" 19, dD "_law_draw" 20, dD "_law_of" 21, dD "_law_like" 22, dD "_law_pair" 23, dD "_law_more" 24, dD "_law_add" 25]
def fn1 : List He.DefD := [dD "_law_min" 26, dD "_law_max" 27, dD "_law_sum" 28, dD "_law_is_amount" 29, dD "_law_is_pair" 30, dD "_law_great" 31, dD "_law_amount" 32, dD "_law_bit" 33, dD "_law_odd" 34, dD "_law_share" 35, dD "_law_total" 36, dD "_law_breaks" 37, dD "_law_grid" 38, dD "_law_fine" 39, dD "_law_wish" 40, dD "_law_wishes" 41, dD "_law_mixed" 42, dD "_law_share_so" 43, dD "_law_cut" 44, dD "_law_cut_so" 45]
def fn2 : List He.DefD := [dD "_law_manner_so" 46, dD "_law_total_so" 47, dD "law" 48]
def fn : List He.DefD := fn0 ++ fn1 ++ fn2
def fa0 : List He.Fa := [.glo "is_number", .glo "is_amount", .glo "plus", .glo "_added", .glo "times", .glo "_product", .glo "compare", .glo "smallest", .glo "largest", .glo "is_manner", .glo "share", .glo "cut_manner", .glo "total", .glo "_law_bag", .glo "_law_draw", .glo "_law_of", .glo "_law_like", .glo "_law_pair", .glo "_law_more", .glo "_law_add"]
def fa1 : List He.Fa := [.glo "_law_min", .glo "_law_max", .glo "_law_sum", .glo "_law_is_amount", .glo "_law_is_pair", .glo "_law_great", .glo "_law_amount", .glo "_law_bit", .glo "_law_odd", .glo "_law_share", .glo "_law_total", .glo "_law_breaks", .glo "_law_grid", .glo "_law_fine", .glo "_law_wish", .glo "_law_wishes", .glo "_law_mixed", .glo "_law_share_so", .glo "_law_cut", .glo "_law_cut_so"]
def fa2 : List He.Fa := [.glo "_law_manner_so", .glo "_law_total_so", .glo "law", .free "all", .free "any", .free "bool", .free "divmod", .free "int", .free "isinstance", .free "len", .free "list", .free "max", .free "min", .free "range", .free "str", .free "sum", .free "tuple", .free "zip"]
def fa : List He.Fa := fa0 ++ fa1 ++ fa2
def ex (K : PySem.W.Frag) : Bool := He.eqO (PySem.W.nsIn K mainGlobals "gcd") (some (some (.builtin "math.gcd"))) && He.eqO (PySem.W.nsIn K mainGlobals "ZERO") (some (some (.ref (He.ga K "ZERO")))) && He.tupB K "ZERO" [.int 0, .int 1]
abbrev R : PySem.W.OpenRow := PySem.W.OpenLaw.row PySem.Challenge.rw_bandheld_k01_shares_and_cuts
abbrev hk : PySem.W.Hook := He.hookX 4 fa fn [] [] ex
def ob (s : PySem.W.SharedT) : He.AlX := He.obsX 4 fa fn [] [] ex (HandSHeadRun.getT s)
theorem ob_eq (s : PySem.W.SharedT) : ob s = hk.obs s.abs := He.obsX_eq (HandSHeadRun.getT_eq s)
def loose0 : List Str := ["is_number", "is_amount", "plus", "_added", "times", "_product", "compare", "smallest", "largest", "is_manner", "share", "cut_manner", "total", "_law_bag", "_law_draw", "_law_of", "_law_like", "_law_pair", "_law_more", "_law_add"]
def loose1 : List Str := ["_law_min", "_law_max", "_law_sum", "_law_is_amount", "_law_is_pair", "_law_great", "_law_amount", "_law_bit", "_law_odd", "_law_share", "_law_total", "_law_breaks", "_law_grid", "_law_fine", "_law_wish", "_law_wishes", "_law_mixed", "_law_share_so", "_law_cut", "_law_cut_so"]
def loose2 : List Str := ["_law_manner_so", "_law_total_so", "ZERO"]
def loose : List Str := loose0 ++ loose1 ++ loose2
theorem run (w : World) : HandSHeadRun.RunEqI R (PySem.W.view R.prog [0, 48]) hk ob 8000 loose w := by
  unfold HandSHeadRun.RunEqI
  kernel_rfl
theorem facts {P : Program} {w : World} {K : PySem.W.Frag} {h : Heap} {mg : Str → Option Value} {f : Addr} (X : K.In h) (G : h.Ns mainGlobals mg) (hfa : mg ("law" : Str) = some (.ref f)) (c0 : He.SaysX fa fn [] [] ex w h K) :
    ∃ fd : FuncData, (∀ (s : Shared) (v : Value), BindsTo s fd ⟨[v], []⟩ [("_law_script", v)]) ∧ ∀ base : Heap, K.In base → base.Ns mainGlobals mg → FnOk P w K mg base CX0 12 f fd ["_law_script"] (spLaw01 K) := by
  have c : He.SaysD fa fn K := c0.t.d
  have m : ex K = true := c0.more
  unfold ex at m
  try simp only [Bool.and_eq_true] at m
  have T0 : Bt mg := ⟨(He.free_ok X G (c.fact 47 (f := .free "int") rfl)), (He.free_ok X G (c.fact 49 (f := .free "len") rfl)), (He.free_ok X G (c.fact 50 (f := .free "list") rfl)), (He.free_ok X G (c.fact 56 (f := .free "tuple") rfl)), (He.free_ok X G (c.fact 54 (f := .free "str") rfl)), (He.free_ok X G (c.fact 45 (f := .free "bool") rfl)), (He.free_ok X G (c.fact 51 (f := .free "max") rfl)), (He.free_ok X G (c.fact 52 (f := .free "min") rfl)), (He.free_ok X G (c.fact 43 (f := .free "all") rfl)), (He.free_ok X G (c.fact 44 (f := .free "any") rfl)), (He.free_ok X G (c.fact 55 (f := .free "sum") rfl)), (He.free_ok X G (c.fact 48 (f := .free "isinstance") rfl)), (He.free_ok X G (c.fact 57 (f := .free "zip") rfl)), (He.free_ok X G (c.fact 53 (f := .free "range") rfl)), (He.free_ok X G (c.fact 46 (f := .free "divmod") rfl))⟩
  have T1 : Bg mg := ⟨T0, PySem.W.mg_of X G (He.eqO_ok m.1.1)⟩
  have tup_ZERO : ∃ z, mg "ZERO" = some (.ref z) ∧ ∀ H, SqT K H z [.int 0, .int 1] := ⟨He.ga K "ZERO", PySem.W.mg_of X G (He.eqO_ok m.1.2), fun H => He.tupB_ok m.2 H⟩
  obtain ⟨d_added, D_added⟩ := c.def_ 3 (d := dD "_added" 7) rfl
  obtain ⟨d_product, D_product⟩ := c.def_ 5 (d := dD "_product" 9) rfl
  obtain ⟨d_times, D_times⟩ := c.def_ 4 (d := dD "times" 8) rfl
  obtain ⟨d_compare, D_compare⟩ := c.def_ 6 (d := dD "compare" 10) rfl
  obtain ⟨d_plus, D_plus⟩ := c.def_ 2 (d := dD "plus" 6) rfl
  obtain ⟨d_smallest, D_smallest⟩ := c.def_ 7 (d := dD "smallest" 11) rfl
  obtain ⟨d_largest, D_largest⟩ := c.def_ 8 (d := dD "largest" 12) rfl
  obtain ⟨d_law_pair, D_law_pair⟩ := c.def_ 17 (d := dD "_law_pair" 23) rfl
  obtain ⟨d_law_more, D_law_more⟩ := c.def_ 18 (d := dD "_law_more" 24) rfl
  obtain ⟨d_law_add, D_law_add⟩ := c.def_ 19 (d := dD "_law_add" 25) rfl
  obtain ⟨d_law_min, D_law_min⟩ := c.def_ 20 (d := dD "_law_min" 26) rfl
  obtain ⟨d_law_max, D_law_max⟩ := c.def_ 21 (d := dD "_law_max" 27) rfl
  obtain ⟨d_law_sum, D_law_sum⟩ := c.def_ 22 (d := dD "_law_sum" 28) rfl
  obtain ⟨d_law_draw, D_law_draw⟩ := c.def_ 14 (d := dD "_law_draw" 20) rfl
  obtain ⟨d_law_bag, D_law_bag⟩ := c.def_ 13 (d := dD "_law_bag" 19) rfl
  obtain ⟨d_law_of, D_law_of⟩ := c.def_ 15 (d := dD "_law_of" 21) rfl
  obtain ⟨d_law_great, D_law_great⟩ := c.def_ 25 (d := dD "_law_great" 31) rfl
  obtain ⟨d_law_bit, D_law_bit⟩ := c.def_ 27 (d := dD "_law_bit" 33) rfl
  obtain ⟨d_law_amount, D_law_amount⟩ := c.def_ 26 (d := dD "_law_amount" 32) rfl
  obtain ⟨d_law_mixed, D_law_mixed⟩ := c.def_ 36 (d := dD "_law_mixed" 42) rfl
  obtain ⟨d_law_like, D_law_like⟩ := c.def_ 16 (d := dD "_law_like" 22) rfl
  obtain ⟨d_share, D_share⟩ := c.def_ 10 (d := dD "share" 15) rfl
  obtain ⟨d_law_breaks, D_law_breaks⟩ := c.def_ 31 (d := dD "_law_breaks" 37) rfl
  obtain ⟨d_law_grid, D_law_grid⟩ := c.def_ 32 (d := dD "_law_grid" 38) rfl
  obtain ⟨d_law_fine, D_law_fine⟩ := c.def_ 33 (d := dD "_law_fine" 39) rfl
  obtain ⟨d_law_wish, D_law_wish⟩ := c.def_ 34 (d := dD "_law_wish" 40) rfl
  obtain ⟨d_law_wishes, D_law_wishes⟩ := c.def_ 35 (d := dD "_law_wishes" 41) rfl
  obtain ⟨d_is_number, D_is_number⟩ := c.def_ 0 (d := dD "is_number" 2) rfl
  obtain ⟨d_is_amount, D_is_amount⟩ := c.def_ 1 (d := dD "is_amount" 5) rfl
  obtain ⟨d_is_manner, D_is_manner⟩ := c.def_ 9 (d := dD "is_manner" 14) rfl
  obtain ⟨d_law_is_amount, D_law_is_amount⟩ := c.def_ 23 (d := dD "_law_is_amount" 29) rfl
  obtain ⟨d_law_is_pair, D_law_is_pair⟩ := c.def_ 24 (d := dD "_law_is_pair" 30) rfl
  obtain ⟨d_law_odd, D_law_odd⟩ := c.def_ 28 (d := dD "_law_odd" 34) rfl
  obtain ⟨d_cut_manner, D_cut_manner⟩ := c.def_ 11 (d := dD "cut_manner" 16) rfl
  obtain ⟨d_law_cut, D_law_cut⟩ := c.def_ 38 (d := dD "_law_cut" 44) rfl
  obtain ⟨d_total, D_total⟩ := c.def_ 12 (d := dD "total" 17) rfl
  obtain ⟨d_law_share, D_law_share⟩ := c.def_ 29 (d := dD "_law_share" 35) rfl
  obtain ⟨d_law_total, D_law_total⟩ := c.def_ 30 (d := dD "_law_total" 36) rfl
  obtain ⟨d_law_share_so, D_law_share_so⟩ := c.def_ 37 (d := dD "_law_share_so" 43) rfl
  obtain ⟨d_law_cut_so, D_law_cut_so⟩ := c.def_ 39 (d := dD "_law_cut_so" 45) rfl
  obtain ⟨d_law_manner_so, D_law_manner_so⟩ := c.def_ 40 (d := dD "_law_manner_so" 46) rfl
  obtain ⟨d_law_total_so, D_law_total_so⟩ := c.def_ 41 (d := dD "_law_total_so" 47) rfl
  obtain ⟨d_law, D_law⟩ := c.def_ 42 (d := dD "law" 48) rfl
  have e := hfa.symm.trans (He.glo_ok X G (c.fact 42 (f := .glo "law") rfl))
  cases e
  refine ⟨d_law, fun s v => (FunD.bindsA (ps := ["_law_script"]) D_law fun _ _ _ _ _ _ us hl => match us, hl with | [_], _ => rfl) s [v] rfl, fun base _ _ => ?_⟩
  have F_added := f_added (P := P) (w := w) (base := base) D_added (He.glo_ok X G (c.fact 3 (f := .glo "_added") rfl)) T1
  have F_product := f_product (P := P) (w := w) (base := base) D_product (He.glo_ok X G (c.fact 5 (f := .glo "_product") rfl)) T1
  have Ftimes := f_times (P := P) (w := w) (base := base) D_times (He.glo_ok X G (c.fact 4 (f := .glo "times") rfl)) F_product
  have Fcompare := f_compare (P := P) (w := w) (base := base) D_compare (He.glo_ok X G (c.fact 6 (f := .glo "compare") rfl)) 
  have Fplus := f_plus (P := P) (w := w) (base := base) D_plus (He.glo_ok X G (c.fact 2 (f := .glo "plus") rfl)) tup_ZERO F_added
  have Fsmallest := f_smallest (P := P) (w := w) (base := base) D_smallest (He.glo_ok X G (c.fact 7 (f := .glo "smallest") rfl)) Fcompare
  have Flargest := f_largest (P := P) (w := w) (base := base) D_largest (He.glo_ok X G (c.fact 8 (f := .glo "largest") rfl)) Fcompare
  have F_law_pair := f_law_pair (P := P) (w := w) (base := base) D_law_pair (He.glo_ok X G (c.fact 17 (f := .glo "_law_pair") rfl)) T0
  have F_law_more := f_law_more (P := P) (w := w) (base := base) D_law_more (He.glo_ok X G (c.fact 18 (f := .glo "_law_more") rfl)) 
  have F_law_add := f_law_add (P := P) (w := w) (base := base) D_law_add (He.glo_ok X G (c.fact 19 (f := .glo "_law_add") rfl)) F_law_pair
  have F_law_min := f_law_min (P := P) (w := w) (base := base) D_law_min (He.glo_ok X G (c.fact 20 (f := .glo "_law_min") rfl)) F_law_more
  have F_law_max := f_law_max (P := P) (w := w) (base := base) D_law_max (He.glo_ok X G (c.fact 21 (f := .glo "_law_max") rfl)) F_law_more
  have F_law_sum := f_law_sum (P := P) (w := w) (base := base) D_law_sum (He.glo_ok X G (c.fact 22 (f := .glo "_law_sum") rfl)) F_law_add
  have F_law_draw := f_law_draw (P := P) (w := w) (base := base) D_law_draw (He.glo_ok X G (c.fact 14 (f := .glo "_law_draw") rfl)) T0
  have F_law_bag := f_law_bag (P := P) (w := w) (base := base) D_law_bag (He.glo_ok X G (c.fact 13 (f := .glo "_law_bag") rfl)) T0
  have F_law_of := f_law_of (P := P) (w := w) (base := base) D_law_of (He.glo_ok X G (c.fact 15 (f := .glo "_law_of") rfl)) T0 F_law_draw
  have F_law_great := f_law_great (P := P) (w := w) (base := base) D_law_great (He.glo_ok X G (c.fact 25 (f := .glo "_law_great") rfl)) F_law_draw F_law_of
  have F_law_bit := f_law_bit (P := P) (w := w) (base := base) D_law_bit (He.glo_ok X G (c.fact 27 (f := .glo "_law_bit") rfl)) F_law_draw F_law_of F_law_pair
  have F_law_amount := f_law_amount (P := P) (w := w) (base := base) D_law_amount (He.glo_ok X G (c.fact 26 (f := .glo "_law_amount") rfl)) T0 F_law_draw F_law_of F_law_pair F_law_great
  have F_law_mixed := f_law_mixed (P := P) (w := w) (base := base) D_law_mixed (He.glo_ok X G (c.fact 36 (f := .glo "_law_mixed") rfl)) T0 F_law_draw
  have F_law_like0 : Fn P w K mg base 0 "_law_like" (spLike K 0) := fn_none D_law_like (He.glo_ok X G (c.fact 16 (f := .glo "_law_like") rfl))
  have F_law_like1 := f_law_like D_law_like (He.glo_ok X G (c.fact 16 (f := .glo "_law_like") rfl)) T0 0 F_law_like0
  have F_law_like2 := f_law_like D_law_like (He.glo_ok X G (c.fact 16 (f := .glo "_law_like") rfl)) T0 1 F_law_like1
  have F_law_like3 := f_law_like D_law_like (He.glo_ok X G (c.fact 16 (f := .glo "_law_like") rfl)) T0 2 F_law_like2
  have F_law_like4 := f_law_like D_law_like (He.glo_ok X G (c.fact 16 (f := .glo "_law_like") rfl)) T0 3 F_law_like3
  have F_law_like5 := f_law_like D_law_like (He.glo_ok X G (c.fact 16 (f := .glo "_law_like") rfl)) T0 4 F_law_like4
  have F_law_like := F_law_like5
  have Oshare := f_share (P := P) (w := w) (base := base) D_share (He.glo_ok X G (c.fact 10 (f := .glo "share") rfl)) tup_ZERO Ftimes Fsmallest Flargest
  have Fshare := fn_of_ok D_share (He.glo_ok X G (c.fact 10 (f := .glo "share") rfl)) Oshare (fun _ _ _ _ _ _ us hl => match us, hl with | [_, _, _], _ => rfl)
  have Xshare_0_level_weight_manner := fx_of_ok (P := P) (w := w) (base := base) 0 ["level", "weight", "manner"] [2, 1, 0] D_share (He.glo_ok X G (c.fact 10 (f := .glo "share") rfl)) Oshare (by decide) (fun _ _ _ _ _ _ us ws h1 h2 => match us, ws, h1, h2 with | [], [_, _, _], _, _ => rfl)
  have Xshare_0_manner_weight_level := fx_of_ok (P := P) (w := w) (base := base) 0 ["manner", "weight", "level"] [0, 1, 2] D_share (He.glo_ok X G (c.fact 10 (f := .glo "share") rfl)) Oshare (by decide) (fun _ _ _ _ _ _ us ws h1 h2 => match us, ws, h1, h2 with | [], [_, _, _], _, _ => rfl)
  have Xshare_2_level := fx_of_ok (P := P) (w := w) (base := base) 2 ["level"] [0, 1, 2] D_share (He.glo_ok X G (c.fact 10 (f := .glo "share") rfl)) Oshare (by decide) (fun _ _ _ _ _ _ us ws h1 h2 => match us, ws, h1, h2 with | [_, _], [_], _, _ => rfl)
  have F_law_breaks := f_law_breaks (P := P) (w := w) (base := base) D_law_breaks (He.glo_ok X G (c.fact 31 (f := .glo "_law_breaks") rfl)) F_law_pair F_law_more
  have F_law_grid := f_law_grid (P := P) (w := w) (base := base) D_law_grid (He.glo_ok X G (c.fact 32 (f := .glo "_law_grid") rfl)) F_law_draw F_law_of
  have F_law_fine := f_law_fine (P := P) (w := w) (base := base) D_law_fine (He.glo_ok X G (c.fact 33 (f := .glo "_law_fine") rfl)) F_law_draw F_law_of F_law_pair F_law_bit
  have F_law_wish := f_law_wish (P := P) (w := w) (base := base) D_law_wish (He.glo_ok X G (c.fact 34 (f := .glo "_law_wish") rfl)) F_law_draw F_law_of F_law_bit F_law_fine F_law_more F_law_add
  have F_law_wishes := f_law_wishes (P := P) (w := w) (base := base) D_law_wishes (He.glo_ok X G (c.fact 35 (f := .glo "_law_wishes") rfl)) T0 F_law_draw F_law_of F_law_bit F_law_fine F_law_wish
  have Fis_number := f_is_number (P := P) (w := w) (base := base) D_is_number (He.glo_ok X G (c.fact 0 (f := .glo "is_number") rfl)) T0
  have Fis_amount := f_is_amount (P := P) (w := w) (base := base) D_is_amount (He.glo_ok X G (c.fact 1 (f := .glo "is_amount") rfl)) T1 Fis_number
  have Ois_manner := f_is_manner (P := P) (w := w) (base := base) D_is_manner (He.glo_ok X G (c.fact 9 (f := .glo "is_manner") rfl)) T0 Fis_amount Fcompare
  have Fis_manner := fn_of_ok D_is_manner (He.glo_ok X G (c.fact 9 (f := .glo "is_manner") rfl)) Ois_manner (fun _ _ _ _ _ _ us hl => match us, hl with | [_], _ => rfl)
  have Xis_manner_0_value := fx_of_ok (P := P) (w := w) (base := base) 0 ["value"] [0] D_is_manner (He.glo_ok X G (c.fact 9 (f := .glo "is_manner") rfl)) Ois_manner (by decide) (fun _ _ _ _ _ _ us ws h1 h2 => match us, ws, h1, h2 with | [], [_], _, _ => rfl)
  have F_law_is_amount := f_law_is_amount (P := P) (w := w) (base := base) D_law_is_amount (He.glo_ok X G (c.fact 23 (f := .glo "_law_is_amount") rfl)) T0 F_law_pair
  have F_law_is_pair := f_law_is_pair (P := P) (w := w) (base := base) D_law_is_pair (He.glo_ok X G (c.fact 24 (f := .glo "_law_is_pair") rfl)) T0 F_law_is_amount F_law_more
  have F_law_odd := f_law_odd (P := P) (w := w) (base := base) D_law_odd (He.glo_ok X G (c.fact 28 (f := .glo "_law_odd") rfl)) F_law_of
  have Ocut_manner := f_cut_manner (P := P) (w := w) (base := base) D_cut_manner (He.glo_ok X G (c.fact 11 (f := .glo "cut_manner") rfl)) T0 Fsmallest
  have Fcut_manner := fn_of_ok D_cut_manner (He.glo_ok X G (c.fact 11 (f := .glo "cut_manner") rfl)) Ocut_manner (fun _ _ _ _ _ _ us hl => match us, hl with | [_, _, _], _ => rfl)
  have Xcut_manner_0_cap_least_manner := fx_of_ok (P := P) (w := w) (base := base) 0 ["cap", "least", "manner"] [2, 1, 0] D_cut_manner (He.glo_ok X G (c.fact 11 (f := .glo "cut_manner") rfl)) Ocut_manner (by decide) (fun _ _ _ _ _ _ us ws h1 h2 => match us, ws, h1, h2 with | [], [_, _, _], _, _ => rfl)
  have F_law_cut := f_law_cut (P := P) (w := w) (base := base) D_law_cut (He.glo_ok X G (c.fact 38 (f := .glo "_law_cut") rfl)) F_law_min
  have Ototal := f_total (P := P) (w := w) (base := base) D_total (He.glo_ok X G (c.fact 12 (f := .glo "total") rfl)) Fshare Fplus Fsmallest
  have Ftotal := fn_of_ok D_total (He.glo_ok X G (c.fact 12 (f := .glo "total") rfl)) Ototal (fun _ _ _ _ _ _ us hl => match us, hl with | [_, _], _ => rfl)
  have Stotal := fs_of_ok D_total (He.glo_ok X G (c.fact 12 (f := .glo "total") rfl)) Ototal (fun _ _ _ _ _ _ _ _ => rfl)
  have F_law_share := f_law_share (P := P) (w := w) (base := base) D_law_share (He.glo_ok X G (c.fact 29 (f := .glo "_law_share") rfl)) F_law_pair F_law_min F_law_max
  have F_law_total := f_law_total (P := P) (w := w) (base := base) D_law_total (He.glo_ok X G (c.fact 30 (f := .glo "_law_total") rfl)) F_law_share F_law_min F_law_sum
  have F_law_share_so := f_law_share_so (P := P) (w := w) (base := base) D_law_share_so (He.glo_ok X G (c.fact 37 (f := .glo "_law_share_so") rfl)) F_law_wish F_law_grid F_law_draw F_law_amount F_law_bit F_law_pair F_law_of F_law_add F_law_share Fshare Xshare_0_level_weight_manner Xshare_0_manner_weight_level Xshare_2_level F_law_like F_law_more
  have F_law_cut_so := f_law_cut_so (P := P) (w := w) (base := base) D_law_cut_so (He.glo_ok X G (c.fact 39 (f := .glo "_law_cut_so") rfl)) F_law_wish F_law_amount F_law_bit F_law_of F_law_add F_law_max F_law_cut Fcut_manner Xcut_manner_0_cap_least_manner Fis_manner F_law_like
  have F_law_manner_so := f_law_manner_so (P := P) (w := w) (base := base) D_law_manner_so (He.glo_ok X G (c.fact 40 (f := .glo "_law_manner_so") rfl)) T0 F_law_amount F_law_of F_law_odd F_law_is_pair Fis_manner Xis_manner_0_value F_law_like
  have F_law_total_so := f_law_total_so (P := P) (w := w) (base := base) D_law_total_so (He.glo_ok X G (c.fact 41 (f := .glo "_law_total_so") rfl)) T0 F_law_wishes F_law_grid F_law_of F_law_amount F_law_bit F_law_breaks F_law_total Ftotal Stotal F_law_mixed F_law_draw F_law_like
  exact f_law (P := P) (w := w) (base := base) D_law (He.glo_ok X G (c.fact 42 (f := .glo "law") rfl)) T0 F_law_bag F_law_share_so F_law_cut_so F_law_manner_so F_law_total_so
end YkHead
open PySem PySem.W PySem.Calls PyProof.Rows in
theorem PySem.Challenge.cw_bandheld_k01_shares_and_cuts_holds : PySem.Challenge.rw_bandheld_k01_shares_and_cuts.Holds := by
  w_on; o_law
  refine HandSHeadRun.head_imp (r := OpenLaw.row PySem.Challenge.rw_bandheld_k01_shares_and_cuts) (q := view (OpenLaw.row PySem.Challenge.rw_bandheld_k01_shares_and_cuts).prog [0, 48]) (H := YkHead.hk) (ob := YkHead.ob) (M := 8000) (loose := YkHead.loose) (d := HandSHeadRun.topDef (OpenLaw.row PySem.Challenge.rw_bandheld_k01_shares_and_cuts).prog 48) (kwd := []) YkHead.ob_eq YkHead.run
    (by kernel_rfl) (by kernel_rfl) (by kernel_rfl) (by rfl) (by first | assumption | decide +kernel) (by decide +kernel) ⟨rfl, rfl, rfl, rfl, rfl, by decide +kernel⟩ ?hw ?hc
  case hw => w_witness2
  case hc =>
    refine L2.walk_ofE (l := PySem.Challenge.rw_bandheld_k01_shares_and_cuts) (n := 63) (k := 12) (x := "_law_script") (CX := L2.CX0) rfl (by decide) (by kernel_rfl) ⟨rfl, by decide, by decide⟩ ?F (fun _ _ _ _ z => z)
    intro w mg fa h Y G hmg0
    obtain ⟨K, KX, c⟩ := Y
    have hmg : mg ("law" : PySem.Str) = some (.ref fa) := by
      have e : (HandSHeadRun.topDef (OpenLaw.row PySem.Challenge.rw_bandheld_k01_shares_and_cuts).prog 48).name = ("law" : PySem.Str) := by kernel_rfl
      rw [← e]
      exact hmg0
    obtain ⟨fd, hb, hF⟩ := YkHead.facts (P := (PySem.Challenge.rw_bandheld_k01_shares_and_cuts).prog) (w := w) KX G hmg c
    exact ⟨K, fd, Yk.spLaw01 K, KX, hb, fun H a ns hl _ hS => ⟨a, ns, rfl, hS, hl, fun _ => rfl⟩, hF⟩

