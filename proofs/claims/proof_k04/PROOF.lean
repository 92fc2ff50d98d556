import PyProof.Rows.All
import Wide.All
import OpenK.AllK
import Wide.FinOn
import HandS.ForMost
import HandS.Defaults
import HandS.Star
import HandS.Gcd
import HandS.Wide
import HandS.HeadHook4
import HandS.NoneIn
import HandS.IsInst
import HandS.Zip
import HandS.Text
import HandS.StrMore
import HandS.FStr
import HandS.Style
import HandS.WideBits
import HandS.HeadEnd
import HandS.Head3
import PySem.Challenge.RW_bandheld_k04_whole_levels_fall
set_option Elab.async false
set_option linter.all false
set_option maxRecDepth 100000
set_option maxHeartbeats 1000000
/-! The layer over the hand layer: what is kept from heap to heap, amounts as rational numbers, readings step by step. -/
namespace Yk
open PySem PySem.Spec PyProof.Rows L2

/-! ### what is kept: all that is tracked, but what stands at S -/
def Ext (S : List Addr) (H H' : Hp) : Prop := ∀ a o, H a = some o → a ∉ S → H' a = some o
theorem Ext.refl {S : List Addr} {H : Hp} : Ext S H H := fun _ _ h _ => h
theorem Ext.trans {S : List Addr} {H H1 H2 : Hp} (a : Ext S H H1) (b : Ext S H1 H2) : Ext S H H2 := fun x o h n => b x o (a x o h n) n
theorem Ext.mono {S T : List Addr} {H H1 : Hp} (a : Ext S H H1) (h : ∀ x ∈ S, x ∈ T) : Ext T H H1 := fun x o e n => a x o e fun z => n (h x z)
theorem Ext.of0 {T : List Addr} {H H1 : Hp} (a : Ext [] H H1) : Ext T H H1 := a.mono fun _ z => nomatch z
theorem Ext.new {S : List Addr} {H H1 : Hp} {p : Addr} {o : HO} (e : Ext S H H1) (h : H1 p = none) : Ext S H (upd H1 p o) := fun a u ha n => by
  have h1 := e a u ha n
  rw [upd_ne (ne_of_none h1 h)]
  exact h1
theorem Ext.at_ {S : List Addr} {H H1 : Hp} {p : Addr} {o : HO} (e : Ext S H H1) (h : p ∈ S) : Ext S H (upd H1 p o) := fun a u ha n => by
  have h1 : a ≠ p := fun z => n (by rw [z]; exact h)
  rw [upd_ne h1]
  exact e a u ha n
/-- what is new to H may change -/
theorem Ext.own {S : List Addr} {H H1 : Hp} {p : Addr} {o : HO} (e : Ext S H H1) (h : H p = none) : Ext S H (upd H1 p o) := fun a u ha n => by
  rw [upd_ne (ne_of_none ha h)]
  exact e a u ha n
theorem Ext.free {H H1 : Hp} (e : Ext [] H H1) {p : Addr} (h : H1 p = none) : H p = none := by
  cases h1 : H p with
  | none => rfl
  | some o =>
    rw [e p o h1 (fun z => nomatch z)] at h
    cases h
theorem Ext.freeS {S : List Addr} {H H1 : Hp} (e : Ext S H H1) {p : Addr} (h : H1 p = none) (hs : ∀ a ∈ S, H1 a ≠ none) : H p = none := by
  cases h1 : H p with
  | none => rfl
  | some o =>
    rw [e p o h1 (fun z => hs p z h)] at h
    cases h

/-- the tuple at a, the list at a, carried on -/
theorem tupX {S : List Addr} {K : PySem.W.Frag} {H H1 : Hp} {a : Addr} {xs : List V} (e : Ext S H H1) (h : SqT K H a xs) (hs : ∀ b ∈ S, ∃ l, H b = some (.lst l)) : SqT K H1 a xs := by
  rcases h with (h | ⟨o, h⟩) | h
  · exact .inl (.inl (e a _ h fun z => by obtain ⟨l, q⟩ := hs a z; rw [h] at q; cases q))
  · exact .inl (.inr ⟨o, e a _ h fun z => by obtain ⟨l, q⟩ := hs a z; rw [h] at q; cases q⟩)
  · exact .inr h
theorem tup0 {K : PySem.W.Frag} {H H1 : Hp} {a : Addr} {xs : List V} (e : Ext [] H H1) (h : SqT K H a xs) : SqT K H1 a xs := tupX e h fun _ z => nomatch z
theorem tupN {K : PySem.W.Frag} {H : Hp} {a p : Addr} {o : HO} {xs : List V} (h : SqT K H a xs) (hp : H p = none) : SqT K (upd H p o) a xs := tup0 (Ext.refl.new hp) h
theorem tupW {K : PySem.W.Frag} {H : Hp} {a p : Addr} {l l' : List V} {xs : List V} (h : SqT K H a xs) (hp : H p = some (.lst l)) : SqT K (upd H p (.lst l')) a xs :=
  tupX (S := [p]) (Ext.refl.at_ List.mem_cons_self) h fun b hb => by rw [List.mem_singleton.mp hb]; exact ⟨l, hp⟩
theorem tupS {K : PySem.W.Frag} {H : Hp} {p : Addr} {xs : List V} : SqT K (upd H p (.tup xs)) p xs := .inl (.inl upd_same)
theorem lstX {S : List Addr} {K : PySem.W.Frag} {H H1 : Hp} {a : Addr} {xs : List V} (e : Ext S H H1) (h : SqL K H a xs) (hs : a ∉ S) : SqL K H1 a xs := by
  rcases h with (h | ⟨o, h⟩) | h
  · exact .inl (.inl (e a _ h hs))
  · exact .inl (.inr ⟨o, e a _ h hs⟩)
  · exact .inr h
theorem lst0 {K : PySem.W.Frag} {H H1 : Hp} {a : Addr} {xs : List V} (e : Ext [] H H1) (h : SqL K H a xs) : SqL K H1 a xs := lstX e h fun z => nomatch z
theorem lstN {K : PySem.W.Frag} {H : Hp} {a p : Addr} {o : HO} {xs : List V} (h : SqL K H a xs) (hp : H p = none) : SqL K (upd H p o) a xs := lst0 (Ext.refl.new hp) h
theorem lstS {K : PySem.W.Frag} {H : Hp} {p : Addr} {xs : List V} : SqL K (upd H p (.lst xs)) p xs := .inl (.inl upd_same)

/-! ### a def by its name -/
section
variable (P : Program) (w : World) (K : PySem.W.Frag) (mg : Str → Option Value) (base : Heap)
structure Fn (k : Nat) (x : Str) (sp : Sp) : Prop where
  run : ∃ f, mg x = some (.ref f) ∧ PySem.W.keepIn K (.ref f) = true ∧ FnR P w K mg base CX0 k f sp
end
section
variable {X : Cx} {k : Nat} {sp : Sp} {x : Str} {p pos : Pos} {e : Expr} {es : List Expr} {t : TA}
def tR (sp : Sp) (t : TA) : TE := fun σ H Q => t σ H fun vs H1 => sp vs H1 Q E0
theorem pe_fn (F : Fn X.prog X.w X.K X.mg X.base k x sp) (hr : Room k X.A) (ha : PA X (e :: es) t) (hg : Gl X x := by rfl) (hdb : (x == ("__debug__" : Str)) = false := by decide)
    (hx : Passes CX0 X E0 := by exact pass0)
    (he : starEach (e :: es) X.env = (false, eval e X.env) :: starEach es X.env := by rfl) (hpl : (backTo pos (starEach es X.env)).any (·.1) = false := by rfl) :
    PE X (.Call (.Name x p) (e :: es) [] pos) (tR sp t) := by
  obtain ⟨f, hm, hk, F⟩ := F.run
  refine ⟨fun pins s σ H Q I h => ?_⟩
  refine wpAny_Call_Name_kw (ld_glob I hg hm ?_ hdb)
  refine PySem.W.callWith_K (h₀ := X.base) I.ok.mod.kin hk (thn (ha.run pos pins s σ H _ I h) fun us s1 ⟨vs, H1, I1, r, q⟩ => ⟨I1.kIn, ?_⟩) he hpl
  exact wpAny_call (run_fnR F hr hx I1 r q)
theorem Fn.mono {P : Program} {w : World} {K : PySem.W.Frag} {mg : Str → Option Value} {base : Heap} {j k : Nat} {x : Str} {sp : Sp} (F : Fn P w K mg base j x sp) (h : j ≤ k) : Fn P w K mg base k x sp := by
  obtain ⟨f, hm, hk, F⟩ := F.run
  exact ⟨f, hm, hk, F.mono h⟩
end
/-- how a def of the text keeps a promise -/
theorem fn_def {P : Program} {w : World} {K : PySem.W.Frag} {mg : Str → Option Value} {base : Heap} {x : Str} {params : Arguments} {body : List Stmt} {scope : Scope} {f : Addr} {fd : FuncData} {N ps : List Str} {k : Nat} {sp : Sp}
    (F : FunD K x x params body scope [] [] f fd) (hm : mg x = some (.ref f)) (S : FnScope N ps scope) (len : ∀ vs H Q E, sp vs H Q E → vs.length = ps.length)
    (hb : ∀ (kV doc pm : Value) (an : Option Addr) (cdv ct : Value) (us : List Value), us.length = ps.length → bindArgs (PySem.W.fnOf x x params body scope .none kV doc pm an cdv ct) ⟨us, []⟩ = pure (ps.zip us))
    (hbody : ∀ (cdv : Value) (A : Around) (outer : List Env) (s : Shared) (H : Hp) (vs : List V) (Q : VK) (E : XK), Room k (A.deeper (envOfC x scope s.heap.objs.size f cdv)) → sp vs H Q E →
      ∃ t, PSs (cxOf CX0 P w K mg base N x scope f cdv A outer s H E).nox body t ∧ t ⟨fun _ H' => Q .non H', Q, fun _ _ => False, fun _ _ => False⟩ (start N vs) H) : Fn P w K mg base (k + 1) x sp := by
  have G : FnOk P w K mg base CX0 (k + 1) f fd ps sp := F.ok S len fun cdv A outer s H vs Q E hr h => by
    obtain ⟨t, h1, h2⟩ := hbody cdv A outer s H vs Q E hr h
    exact ⟨t, h1.nox, h2⟩
  have b := F.bindsN hb
  have R := G.raw b .nil
  refine ⟨f, hm, F.kp, R.imp fun vs H Q E h => ?_⟩
  rw [List.append_nil]
  exact h

/-! ### len, list by names -/
def rLn (K : PySem.W.Frag) : List V → Hp → VK → Prop := fun xs H Q => ∃ p ys, xs = [.ref p] ∧ (SqL K H p ys ∨ SqT K H p ys) ∧ Q (.int ys.length) H
def rLs (K : PySem.W.Frag) : List V → Hp → VK → Prop := fun xs H Q => ∃ p ys, xs = [.ref p] ∧ (SqL K H p ys ∨ SqT K H p ys) ∧ ∀ l, H l = none → Q (.ref l) (upd H l (.lst ys))
section
variable {X : Cx}
theorem cr_len : CallR X (.builtin "len") (rLn X.K) := call_len_seq
theorem cr_list : CallR X (.type "list") (rLs X.K) := call_list_of
end
/-! ### readings, one step each -/
section
variable {nx : L2.St → Hp → Prop} {rt : VK} {bk ct : L2.St → Hp → Prop} {σ : L2.St} {H : Hp} {K : PySem.W.Frag} {Q : VK} {t u : TS} {te ta tb : TE} {g : TG} {c : TT} {v x y : V}
theorem r_seq (h : t ⟨u ⟨nx, rt, bk, ct⟩, rt, bk, ct⟩ σ H) : tSeq t u ⟨nx, rt, bk, ct⟩ σ H := h
theorem r_next (h : nx σ H) : tNext ⟨nx, rt, bk, ct⟩ σ H := h
theorem r_asg (h : te σ H fun x H1 => g x σ H1 nx) : tAsg te g ⟨nx, rt, bk, ct⟩ σ H := h
theorem r_ret (h : te σ H rt) : tRet te ⟨nx, rt, bk, ct⟩ σ H := h
theorem r_drop (h : te σ H fun _ H1 => nx σ H1) : tDrop te ⟨nx, rt, bk, ct⟩ σ H := h
theorem r_ifS (h : c σ H fun b H1 => if b = true then t ⟨nx, rt, bk, ct⟩ σ H1 else u ⟨nx, rt, bk, ct⟩ σ H1) : tIfS c t u ⟨nx, rt, bk, ct⟩ σ H := h
theorem r_par {i j : Nat} {ta : TA} (h : ta σ H fun vs H1 => ∃ v w, vs = [v, w] ∧ nx ((σ.set i (some v)).set j (some w)) H1) : tPar i j ta ⟨nx, rt, bk, ct⟩ σ H := h
theorem r_name {i : Nat} {R : L2.St → Hp → Prop} (h : R (σ.set i (some v)) H) : gName i v σ H R := h
theorem r_gTup {n : Nat} {ts : TGs} {a : Addr} {xs : List V} {R : L2.St → Hp → Prop} (h1 : SqT K H a xs) (h2 : xs.length = n) (h : ts xs σ H R) : gTup K n ts (.ref a) σ H R := ⟨a, xs, rfl, h1, h2, h⟩
theorem r_gCons {ts : TGs} {vs : List V} {R : L2.St → Hp → Prop} (h : g v σ H fun σ' H' => ts vs σ' H' R) : gCons g ts (v :: vs) σ H R := ⟨v, vs, rfl, h⟩
theorem r_gNil {R : L2.St → Hp → Prop} (h : R σ H) : gNil [] σ H R := ⟨rfl, h⟩
theorem r_gSub {to ti : TE} {ts : TSet} {R : L2.St → Hp → Prop} (h : to σ H fun o H1 => ti σ H1 fun i H2 => ts o i v H2 fun H3 => R σ H3) : gSub to ti ts v σ H R := h
theorem r_var {i : Nat} (h1 : σ[i]? = some (some v)) (h : Q v H) : tVar i σ H Q := ⟨v, h1, h⟩
theorem r_c (h : Q v H) : tC v σ H Q := h
theorem r_op {r : R2} (h : ta σ H fun x H1 => tb σ H1 fun y H2 => r x y H2 Q) : tOp r ta tb σ H Q := h
theorem r_un {r : V → Hp → VK → Prop} (h : ta σ H fun x H1 => r x H1 Q) : tUn r ta σ H Q := h
theorem r_I0 {f : Int → Int → V} {i j : Int} (h : Q (f i j) H) : rI0 f (.int i) (.int j) H Q := ⟨i, j, rfl, rfl, h⟩
theorem r_I {C : Int → Int → Prop} {f : Int → Int → V} {i j : Int} (hc : C i j) (h : Q (f i j) H) : rI C f (.int i) (.int j) H Q := ⟨i, j, rfl, rfl, hc, h⟩
theorem r_U {f : Int → V} {i : Int} (h : Q (f i) H) : rU f (.int i) H Q := ⟨i, rfl, h⟩
theorem r_ixT {p : Addr} {xs : List V} {i : Int} (h1 : SqT K H p xs) (h2 : atI xs i = some v) (h : Q v H) : rIxT K (.ref p) (.int i) H Q := ⟨p, xs, i, v, rfl, rfl, h1, h2, h⟩
theorem r_ixL {p : Addr} {xs : List V} {i : Int} (h1 : SqL K H p xs) (h2 : atI xs i = some v) (h : Q v H) : rIxL K (.ref p) (.int i) H Q := ⟨p, xs, i, v, rfl, rfl, h1, h2, h⟩
theorem r_cons {t : TA} {R : List V → Hp → Prop} (h : ta σ H fun x H1 => t σ H1 fun xs H2 => R (x :: xs) H2) : tCons ta t σ H R := h
theorem r_nil {R : List V → Hp → Prop} (h : R [] H) : tNil σ H R := h
theorem r_tup {t : TA} (h : t σ H fun xs H1 => xs.length ≤ sizeLine ∧ ∀ p, H1 p = none → Q (.ref p) (upd H1 p (.tup xs))) : tTup t σ H Q := h
theorem r_lst {t : TA} (h : t σ H fun xs H1 => xs.length ≤ sizeLine ∧ ∀ p, H1 p = none → Q (.ref p) (upd H1 p (.lst xs))) : tLst t σ H Q := h
theorem r_CB {r : List V → Hp → VK → Prop} {t : TA} (h : t σ H fun vs H1 => r vs H1 Q) : tCB r t σ H Q := h
theorem r_R {sp : Sp} {t : TA} (h : t σ H fun vs H1 => sp vs H1 Q E0) : tR sp t σ H Q := h
theorem r_gcd {a b : Int} (h : Q (.int ((Nat.gcd a.natAbs b.natAbs : Nat) : Int)) H) : rGcd [.int a, .int b] H Q := ⟨a, b, rfl, h⟩
theorem r_test {R : Bool → Hp → Prop} (h : te σ H fun x H' => ∃ k, x = .bl k ∧ R k H') : tTest te σ H R := h
theorem r_B {R : Bool → Hp → Prop} (h : te σ H fun x H' => ∃ k, x = .bl k ∧ R k H') : tB te σ H R := h
theorem r_bl {b : Bool} {R : Bool → Prop} (h : R b) : ∃ k, V.bl b = .bl k ∧ R k := ⟨b, rfl, h⟩
theorem r_if (h : c σ H fun b H1 => if b = true then ta σ H1 Q else tb σ H1 Q) : tIf c ta tb σ H Q := h
theorem r_and {d : TT} {R : Bool → Hp → Prop} (h : c σ H fun b H1 => if b = true then d σ H1 R else R false H1) : tAnd c d σ H R := h
theorem r_or {d : TT} {R : Bool → Hp → Prop} (h : c σ H fun b H1 => if b = true then R true H1 else d σ H1 R) : tOr c d σ H R := h
theorem r_not {R : Bool → Hp → Prop} (h : c σ H fun b H1 => R (!b) H1) : tNot c σ H R := h
theorem r_eq (hs : scal x y = true) (h : Q (.bl (decide (x = y))) H) : rEq x y H Q := ⟨hs, h⟩
theorem r_ne (hs : scal x y = true) (h : Q (.bl (!decide (x = y))) H) : rNe x y H Q := ⟨hs, h⟩
theorem r_dec {p : Prop} [Decidable p] {A B : Prop} (h1 : p → A) (h2 : ¬ p → B) : if decide p = true then A else B := by
  by_cases hp : p
  · rw [decide_eq_true hp, if_pos rfl]; exact h1 hp
  · rw [decide_eq_false hp, if_neg (by decide)]; exact h2 hp
theorem r_forT {i : Nat} {a : Addr} {xs : List V} (h1 : σ[i]? = some (some (.ref a))) (h2 : SqT K H a xs) (Pv : Nat → L2.St → Hp → Prop) (h0 : Pv 0 σ H) (hl : ∀ i σ H, i ≤ xs.length → Pv i σ H → SqT K H a xs)
    (hs : ∀ i x σ H, xs[i]? = some x → Pv i σ H → g x σ H fun σ2 H2 => t ⟨Pv (i + 1), rt, nx, Pv (i + 1)⟩ σ2 H2) (hd : ∀ σ H, Pv xs.length σ H → nx σ H) : tFor (iTup K (tVar i)) g t ⟨nx, rt, bk, ct⟩ σ H :=
  ⟨_, h1, a, rfl, ⟨xs, h2⟩, for_tup Pv h0 hl hs hd⟩
theorem r_forL {i : Nat} {a : Addr} {xs : List V} (h1 : σ[i]? = some (some (.ref a))) (h2 : SqL K H a xs) (Pv : Nat → L2.St → Hp → Prop) (h0 : Pv 0 σ H) (hl : ∀ i σ H, i ≤ xs.length → Pv i σ H → SqL K H a xs)
    (hs : ∀ i x σ H, xs[i]? = some x → Pv i σ H → g x σ H fun σ2 H2 => t ⟨Pv (i + 1), rt, nx, Pv (i + 1)⟩ σ2 H2) (hd : ∀ σ H, Pv xs.length σ H → nx σ H) : tFor (iList K (tVar i)) g t ⟨nx, rt, bk, ct⟩ σ H :=
  ⟨_, h1, a, rfl, ⟨xs, h2⟩, for_list Pv h0 hl hs hd⟩
theorem r_for {wi : TI} (h : wi σ H fun J H1 => ∃ W : Nat → Nat → L2.St → Hp → Prop, (∃ m, W 0 m σ H1) ∧ ∀ i m σ H, W i m σ H →
  (J.stop i H ∧ nx σ H) ∨ (J.go i H ∧ ∃ N : L2.St → Hp → Prop, (∀ σ' H', N σ' H' → ∃ m', m' < m ∧ W (i + 1) m' σ' H') ∧ ∀ x H', J.yld i H x H' → g x σ H' fun σ2 H2 => t ⟨N, rt, nx, N⟩ σ2 H2)) : tFor wi g t ⟨nx, rt, bk, ct⟩ σ H := h
theorem r_iList {tl : TE} {R : It → Hp → Prop} (h : tl σ H fun x H1 => ∃ a, x = .ref a ∧ (∃ xs, SqL K H1 a xs) ∧ R (Itl K a) H1) : iList K tl σ H R := h
theorem r_iTup {tl : TE} {R : It → Hp → Prop} (h : tl σ H fun x H1 => ∃ a, x = .ref a ∧ (∃ xs, SqT K H1 a xs) ∧ R (Itt K a) H1) : iTup K tl σ H R := h
theorem r_iRng1 {ta : TA} {R : It → Hp → Prop} (h : ta σ H fun vs H1 => ∃ j : Int, vs = [.int j] ∧ -(2 ^ 62) ≤ j ∧ j < 2 ^ 62 ∧ R (Itr 0 j.toNat) H1) : iRng1 ta σ H R := h
theorem r_loopL {a : Addr} {xs : List V} (Pv : Nat → L2.St → Hp → Prop) (h0 : Pv 0 σ H) (hl : ∀ i σ H, i ≤ xs.length → Pv i σ H → SqL K H a xs)
    (hs : ∀ i x σ H, xs[i]? = some x → Pv i σ H → g x σ H fun σ2 H2 => t ⟨Pv (i + 1), rt, nx, Pv (i + 1)⟩ σ2 H2) (hd : ∀ σ H, Pv xs.length σ H → nx σ H) :
    ∃ W : Nat → Nat → L2.St → Hp → Prop, (∃ m, W 0 m σ H) ∧ ∀ i m σ H, W i m σ H →
      ((Itl K a).stop i H ∧ nx σ H) ∨ ((Itl K a).go i H ∧ ∃ N : L2.St → Hp → Prop, (∀ σ' H', N σ' H' → ∃ m', m' < m ∧ W (i + 1) m' σ' H') ∧ ∀ x H', (Itl K a).yld i H x H' → g x σ H' fun σ2 H2 => t ⟨N, rt, nx, N⟩ σ2 H2) :=
  for_list (D := ⟨nx, rt, nx, nx⟩) Pv h0 hl hs hd
theorem r_loopT {a : Addr} {xs : List V} (Pv : Nat → L2.St → Hp → Prop) (h0 : Pv 0 σ H) (hl : ∀ i σ H, i ≤ xs.length → Pv i σ H → SqT K H a xs)
    (hs : ∀ i x σ H, xs[i]? = some x → Pv i σ H → g x σ H fun σ2 H2 => t ⟨Pv (i + 1), rt, nx, Pv (i + 1)⟩ σ2 H2) (hd : ∀ σ H, Pv xs.length σ H → nx σ H) :
    ∃ W : Nat → Nat → L2.St → Hp → Prop, (∃ m, W 0 m σ H) ∧ ∀ i m σ H, W i m σ H →
      ((Itt K a).stop i H ∧ nx σ H) ∨ ((Itt K a).go i H ∧ ∃ N : L2.St → Hp → Prop, (∀ σ' H', N σ' H' → ∃ m', m' < m ∧ W (i + 1) m' σ' H') ∧ ∀ x H', (Itt K a).yld i H x H' → g x σ H' fun σ2 H2 => t ⟨N, rt, nx, N⟩ σ2 H2) :=
  for_tup (D := ⟨nx, rt, nx, nx⟩) Pv h0 hl hs hd
theorem r_loopR {lo : Int} {n : Nat} (Pv : Nat → L2.St → Hp → Prop) (h0 : Pv 0 σ H)
    (hs : ∀ i σ H, i < n → Pv i σ H → g (.int (lo + i)) σ H fun σ2 H2 => t ⟨Pv (i + 1), rt, nx, Pv (i + 1)⟩ σ2 H2) (hd : ∀ σ H, Pv n σ H → nx σ H) :
    ∃ W : Nat → Nat → L2.St → Hp → Prop, (∃ m, W 0 m σ H) ∧ ∀ i m σ H, W i m σ H →
      ((Itr lo n).stop i H ∧ nx σ H) ∨ ((Itr lo n).go i H ∧ ∃ N : L2.St → Hp → Prop, (∀ σ' H', N σ' H' → ∃ m', m' < m ∧ W (i + 1) m' σ' H') ∧ ∀ x H', (Itr lo n).yld i H x H' → g x σ H' fun σ2 H2 => t ⟨N, rt, nx, N⟩ σ2 H2) :=
  for_range (D := ⟨nx, rt, nx, nx⟩) Pv h0 hs hd
theorem r_gUnl {n : Nat} {ts : TGs} {a : Addr} {xs : List V} {R : L2.St → Hp → Prop} (h1 : SqL K H a xs) (h2 : xs.length = n) (h : ts xs σ H R) : gUnl K n ts (.ref a) σ H R := ⟨a, xs, rfl, h1, h2, h⟩
theorem r_BM {T : String} {r : V → List V → Hp → VK → Prop} {to : TE} {ta : TA} (h : to σ H fun x H1 => tyV K T x H1 ∧ ta σ H1 fun xs H2 => r x xs H2 Q) : tBM K T r to ta σ H Q := h
theorem r_BM0 {T : String} {r : V → List V → Hp → VK → Prop} {to : TE} (h : to σ H fun x H1 => tyV K T x H1 ∧ r x [] H1 Q) : tBM0 K T r to σ H Q := h
theorem r_lc {wi : TI} {g : TG} {tt : TT} {te : TE} {vs : List Nat} (h : wi σ H fun J H1 => ∀ D, H1 D = none → ∃ W : Nat → Nat → Hp → Prop, (∃ m, W 0 m (upd H1 D (.lst []))) ∧ ∀ i m H, W i m H →
  (J.stop i H ∧ Q (.ref D) H) ∨ (J.go i H ∧ ∃ Nx : Hp → Prop, (∀ H', Nx H' → ∃ m', m' < m ∧ W (i + 1) m' H') ∧ ∀ x H', J.yld i H x H' → g x (wipe σ vs) H' fun σ2 H2 => wipe σ2 vs = wipe σ vs ∧ tt σ2 H2 fun b H3 =>
    if b = true then te σ2 H3 fun y H4 => ∃ acc, H4 D = some (.lst acc) ∧ acc.length < sizeLine ∧ Nx (upd H4 D (.lst (acc ++ [y]))) else Nx H3)) : tLc wi g tt te vs σ H Q := h
theorem r_yes {R : Bool → Hp → Prop} (h : R true H) : tYes σ H R := h
theorem r_tt {A B : Prop} (h : A) : if true = true then A else B := by rw [if_pos rfl]; exact h
theorem r_popAt {l : Addr} {xs : List V} {i : Int} {k : Nat} {y : V} (h1 : H l = some (.lst xs)) (h2 : i = (k : Int)) (h3 : xs[k]? = some y) (h4 : xs.length ≤ 4000) (h : Q y (upd H l (.lst (xs.eraseIdx k)))) : rPopAt (.ref l) [.int i] H Q := by
  have hk : k < xs.length := (List.getElem?_eq_some_iff.mp h3).1
  have e : ixN xs.length i = some k := by
    unfold ixN
    rw [if_pos (by omega), if_pos (by omega), h2, Int.toNat_natCast]
  exact ⟨l, xs, i, k, y, rfl, rfl, h1, by omega, by omega, (ixN_seq e).1, h3, h⟩
theorem r_lcR {lo : Int} {n : Nat} {g : TG} {tt : TT} {te : TE} {vs : List Nat} {D : Addr} {Qd : Hp → Prop} (Pv : Nat → Hp → Prop) (h0 : Pv 0 (upd H D (.lst [])))
    (hs : ∀ i H, i < n → Pv i H → g (.int (lo + i)) (wipe σ vs) H fun σ2 H2 => wipe σ2 vs = wipe σ vs ∧ tt σ2 H2 fun b H3 =>
      if b = true then te σ2 H3 fun y H4 => ∃ acc, H4 D = some (.lst acc) ∧ acc.length < sizeLine ∧ Pv (i + 1) (upd H4 D (.lst (acc ++ [y]))) else Pv (i + 1) H3) (hd : ∀ H, Pv n H → Qd H) :
    ∃ W : Nat → Nat → Hp → Prop, (∃ m, W 0 m (upd H D (.lst []))) ∧ ∀ i m H, W i m H →
      ((Itr lo n).stop i H ∧ Qd H) ∨ ((Itr lo n).go i H ∧ ∃ Nx : Hp → Prop, (∀ H', Nx H' → ∃ m', m' < m ∧ W (i + 1) m' H') ∧ ∀ x H', (Itr lo n).yld i H x H' → g x (wipe σ vs) H' fun σ2 H2 => wipe σ2 vs = wipe σ vs ∧ tt σ2 H2 fun b H3 =>
        if b = true then te σ2 H3 fun y H4 => ∃ acc, H4 D = some (.lst acc) ∧ acc.length < sizeLine ∧ Nx (upd H4 D (.lst (acc ++ [y]))) else Nx H3) :=
  lc_range (Qd := Qd) Pv h0 hs hd
theorem r_lcL {a : Addr} {xs : List V} {g : TG} {tt : TT} {te : TE} {vs : List Nat} {D : Addr} {Qd : Hp → Prop} (Pv : Nat → Hp → Prop) (h0 : Pv 0 (upd H D (.lst []))) (hl : ∀ i H, i ≤ xs.length → Pv i H → SqL K H a xs)
    (hs : ∀ i x H, xs[i]? = some x → Pv i H → g x (wipe σ vs) H fun σ2 H2 => wipe σ2 vs = wipe σ vs ∧ tt σ2 H2 fun b H3 =>
      if b = true then te σ2 H3 fun y H4 => ∃ acc, H4 D = some (.lst acc) ∧ acc.length < sizeLine ∧ Pv (i + 1) (upd H4 D (.lst (acc ++ [y]))) else Pv (i + 1) H3) (hd : ∀ H, Pv xs.length H → Qd H) :
    ∃ W : Nat → Nat → Hp → Prop, (∃ m, W 0 m (upd H D (.lst []))) ∧ ∀ i m H, W i m H →
      ((Itl K a).stop i H ∧ Qd H) ∨ ((Itl K a).go i H ∧ ∃ Nx : Hp → Prop, (∀ H', Nx H' → ∃ m', m' < m ∧ W (i + 1) m' H') ∧ ∀ x H', (Itl K a).yld i H x H' → g x (wipe σ vs) H' fun σ2 H2 => wipe σ2 vs = wipe σ vs ∧ tt σ2 H2 fun b H3 =>
        if b = true then te σ2 H3 fun y H4 => ∃ acc, H4 D = some (.lst acc) ∧ acc.length < sizeLine ∧ Nx (upd H4 D (.lst (acc ++ [y]))) else Nx H3) :=
  lc_list (Qd := Qd) Pv h0 hl hs hd
theorem r_true {c : Bool} {A B : Prop} (hc : c = true) (h : A) : if c = true then A else B := by rw [if_pos hc]; exact h
theorem r_false {c : Bool} {A B : Prop} (hc : c = false) (h : B) : if c = true then A else B := by rw [hc, if_neg (by decide)]; exact h
theorem len_is {n : Nat} {k : Int} (h : (n : Int) = k) : decide (V.int (n : Int) = V.int k) = true := decide_eq_true (by rw [h])
theorem len_not {n : Nat} {k : Int} (h : (n : Int) ≠ k) : decide (V.int (n : Int) = V.int k) = false := decide_eq_false fun z => h (V.int.inj z)
theorem r_lcZL {a b : Addr} {xs ys : List V} {g : TG} {tt : TT} {te : TE} {vs : List Nat} {D : Addr} {Qd : Hp → Prop} (hl : xs.length = ys.length) (Pv : Nat → Hp → Prop) (h0 : Pv 0 (upd H D (.lst []))) (hq : ∀ i H, Pv i H → SqL K H a xs ∧ SqL K H b ys)
    (hs : ∀ (i : Nat) (x y : V) (T : Addr) (H : Hp), xs[i]? = some x → ys[i]? = some y → Pv i H → H T = none → g (.ref T) (wipe σ vs) (upd H T (.tup [x, y])) fun σ2 H2 => wipe σ2 vs = wipe σ vs ∧ tt σ2 H2 fun b H3 =>
      if b = true then te σ2 H3 fun y H4 => ∃ acc, H4 D = some (.lst acc) ∧ acc.length < sizeLine ∧ Pv (i + 1) (upd H4 D (.lst (acc ++ [y]))) else Pv (i + 1) H3) (hd : ∀ H, Pv xs.length H → Qd H) :
    ∃ W : Nat → Nat → Hp → Prop, (∃ m, W 0 m (upd H D (.lst []))) ∧ ∀ i m H, W i m H →
      ((Itz K a b).stop i H ∧ Qd H) ∨ ((Itz K a b).go i H ∧ ∃ Nx : Hp → Prop, (∀ H', Nx H' → ∃ m', m' < m ∧ W (i + 1) m' H') ∧ ∀ x H', (Itz K a b).yld i H x H' → g x (wipe σ vs) H' fun σ2 H2 => wipe σ2 vs = wipe σ vs ∧ tt σ2 H2 fun b H3 =>
        if b = true then te σ2 H3 fun y H4 => ∃ acc, H4 D = some (.lst acc) ∧ acc.length < sizeLine ∧ Nx (upd H4 D (.lst (acc ++ [y]))) else Nx H3) := by
  refine ⟨fun i m H => m = xs.length - i ∧ i ≤ xs.length ∧ Pv i H, ⟨xs.length, rfl, Nat.zero_le _, h0⟩, ?_⟩
  rintro i m H ⟨rfl, hi, p⟩
  obtain ⟨qx, qy⟩ := hq i H p
  by_cases hlt : i < xs.length
  · have hx : xs[i]? = some xs[i] := List.getElem?_eq_getElem hlt
    have hlt2 : i < ys.length := by omega
    have hy : ys[i]? = some ys[i] := List.getElem?_eq_getElem hlt2
    refine .inr ⟨⟨xs, ys, _, _, qx, qy, hx, hy⟩, Pv (i + 1), fun H' p' => ⟨xs.length - (i + 1), by omega, rfl, hlt, p'⟩, fun v H' y => ?_⟩
    obtain ⟨T, x', y', rfl, hT, rfl, f1, f2⟩ := y
    exact hs i x' y' T _ (f1 xs qx) (f2 ys qy) p hT
  · have e : i = xs.length := by omega
    subst e
    exact .inl ⟨⟨xs, ys, qx, qy, .inl (Nat.le_refl _)⟩, hd H p⟩
theorem r_lcZT {a b : Addr} {xs ys : List V} {g : TG} {tt : TT} {te : TE} {vs : List Nat} {D : Addr} {Qd : Hp → Prop} (hl : xs.length = ys.length) (Pv : Nat → Hp → Prop) (h0 : Pv 0 (upd H D (.lst []))) (hq : ∀ i H, Pv i H → SqT K H a xs ∧ SqT K H b ys)
    (hs : ∀ (i : Nat) (x y : V) (T : Addr) (H : Hp), xs[i]? = some x → ys[i]? = some y → Pv i H → H T = none → g (.ref T) (wipe σ vs) (upd H T (.tup [x, y])) fun σ2 H2 => wipe σ2 vs = wipe σ vs ∧ tt σ2 H2 fun b H3 =>
      if b = true then te σ2 H3 fun y H4 => ∃ acc, H4 D = some (.lst acc) ∧ acc.length < sizeLine ∧ Pv (i + 1) (upd H4 D (.lst (acc ++ [y]))) else Pv (i + 1) H3) (hd : ∀ H, Pv xs.length H → Qd H) :
    ∃ W : Nat → Nat → Hp → Prop, (∃ m, W 0 m (upd H D (.lst []))) ∧ ∀ i m H, W i m H →
      ((RZ.ItzT K a b).stop i H ∧ Qd H) ∨ ((RZ.ItzT K a b).go i H ∧ ∃ Nx : Hp → Prop, (∀ H', Nx H' → ∃ m', m' < m ∧ W (i + 1) m' H') ∧ ∀ x H', (RZ.ItzT K a b).yld i H x H' → g x (wipe σ vs) H' fun σ2 H2 => wipe σ2 vs = wipe σ vs ∧ tt σ2 H2 fun b H3 =>
        if b = true then te σ2 H3 fun y H4 => ∃ acc, H4 D = some (.lst acc) ∧ acc.length < sizeLine ∧ Nx (upd H4 D (.lst (acc ++ [y]))) else Nx H3) := by
  refine ⟨fun i m H => m = xs.length - i ∧ i ≤ xs.length ∧ Pv i H, ⟨xs.length, rfl, Nat.zero_le _, h0⟩, ?_⟩
  rintro i m H ⟨rfl, hi, p⟩
  obtain ⟨qx, qy⟩ := hq i H p
  by_cases hlt : i < xs.length
  · have hx : xs[i]? = some xs[i] := List.getElem?_eq_getElem hlt
    have hlt2 : i < ys.length := by omega
    have hy : ys[i]? = some ys[i] := List.getElem?_eq_getElem hlt2
    refine .inr ⟨⟨xs, ys, _, _, qx, qy, hx, hy⟩, Pv (i + 1), fun H' p' => ⟨xs.length - (i + 1), by omega, rfl, hlt, p'⟩, fun v H' y => ?_⟩
    obtain ⟨T, x', y', rfl, hT, rfl, f1, f2⟩ := y
    exact hs i x' y' T _ (f1 xs qx) (f2 ys qy) p hT
  · have e : i = xs.length := by omega
    subst e
    exact .inl ⟨⟨xs, ys, qx, qy, .inl (Nat.le_refl _)⟩, hd H p⟩
theorem tyT {a : Addr} {xs : List V} (h : SqT K H a xs) : TyX K H (.ref a) (.type "tuple") := by
  rcases h with (h | ⟨o, h⟩) | ⟨o, its, n, h, c, _⟩
  · exact .base (.tup h)
  · exact .fTuple h
  · exact .kTuple h c
theorem tyL {a : Addr} {xs : List V} (h : SqL K H a xs) : TyX K H (.ref a) (.type "list") := by
  rcases h with (h | ⟨o, h⟩) | ⟨o, its, n, h, c, _⟩
  · exact .base (.lst h)
  · exact .base (.frz h)
  · exact .kList h c
theorem r_isi {T c : String} {b : Bool} (ht : TyX K H x (.type T)) (he : PySem.W.kitOne K (.type T) (.type c) = some b) (h : Q (.bl b) H) : rIsi K [x, .ty c] H Q := ⟨x, .ty c, .type T, .type c, b, rfl, .ty c, ht, he, h⟩
theorem r_isiT {T c1 c2 : String} {b : Bool} {p : Addr} (hp : H p = some (.tup [.ty c1, .ty c2])) (ht : TyX K H x (.type T)) (he : PySem.W.kitAny K (.type T) [.type c1, .type c2] = some b) (h : Q (.bl b) H) : rIsiT K [x, .ref p] H Q :=
  ⟨x, p, [.ty c1, .ty c2], .type T, [.type c1, .type c2], b, rfl, hp, .cons (.ty c1) (.cons (.ty c2) .nil), ht, he, h⟩
theorem r_andV (h : ta σ H fun x H1 => ∃ c, x = .bl c ∧ if c = true then tb σ H1 Q else Q (.bl false) H1) : tAndV ta tb σ H Q := h
theorem r_orV (h : ta σ H fun x H1 => ∃ c, x = .bl c ∧ if c = true then Q (.bl true) H1 else tb σ H1 Q) : tOrV ta tb σ H Q := h
theorem r_notV (h : ta σ H fun x H1 => ∃ c, x = .bl c ∧ Q (.bl (!c)) H1) : tNotV ta σ H Q := h
theorem r_all {a : Addr} {bs : List Bool} (h1 : SqL K H a (bs.map V.bl)) (h : Q (.bl (bs.all id)) H) : rAll K [.ref a] H Q := ⟨a, bs, rfl, h1, h⟩
theorem r_any {a : Addr} {bs : List Bool} (h1 : SqL K H a (bs.map V.bl)) (h : Q (.bl (bs.any id)) H) : rAny K [.ref a] H Q := ⟨a, bs, rfl, h1, h⟩
theorem r_iZip {ta : TA} {R : It → Hp → Prop} (h : ta σ H fun vs H1 => ∃ a b xs ys, vs = [.ref a, .ref b] ∧ ((SqL K H1 a xs ∧ SqL K H1 b ys ∧ R (Itz K a b) H1) ∨ (SqT K H1 a xs ∧ SqT K H1 b ys ∧ R (RZ.ItzT K a b) H1))) : RZ.iZipA K ta σ H R := h
theorem r_while (W : Nat → L2.St → Hp → Prop) (m : Nat) (h0 : W m σ H) (hs : ∀ m σ H, W m σ H → c σ H fun b H1 => if b = true then ∃ N : L2.St → Hp → Prop, (∀ σ' H', N σ' H' → ∃ m', m' < m ∧ W m' σ' H') ∧ t ⟨N, rt, nx, N⟩ σ H1 else nx σ H1) : tWhile c t ⟨nx, rt, bk, ct⟩ σ H :=
  ⟨W, ⟨m, h0⟩, hs⟩
theorem r_slL {te : TE} {tl th : TO} {r : V → Option Int → Option Int → Hp → VK → Prop} (h : te σ H fun x H1 => tl σ H1 fun l H2 => th σ H2 fun u H3 => r x l u H3 Q) : tSl r te tl th σ H Q := h
theorem r_noP {R : Option Int → Hp → Prop} (h : R none H) : tNoPart σ H R := h
theorem r_part {te : TE} {R : Option Int → Hp → Prop} (h : te σ H fun x H1 => ∃ i, x = .int i ∧ R (some i) H1) : tPart te σ H R := h
theorem r_exI {i : Int} {R : Int → Prop} (h : R i) : ∃ j, V.int i = .int j ∧ R j := ⟨i, rfl, h⟩
theorem r_slList {a : Addr} {xs : List V} {lo hi : Option Int} (h1 : SqL K H a xs) (h : ∀ p, H p = none → Q (.ref p) (upd H p (.lst (cutV xs lo hi)))) : rSlL K (.ref a) lo hi H Q := ⟨a, xs, rfl, h1, h⟩
theorem r_setL {p : Addr} {xs : List V} {k : Int} {j : Nat} {R : Hp → Prop} (h1 : H p = some (.lst xs)) (h2 : ixN xs.length k = some j) (h : R (upd H p (.lst (xs.set j v)))) : rSetL (.ref p) (.int k) v H R := ⟨p, xs, k, j, rfl, rfl, h1, h2, h⟩
theorem r_int {i : Int} {R : Int → Prop} {B : Prop} (h : R i) : (∃ j, [V.int i] = [.int j] ∧ R j) ∨ B := .inl ⟨i, rfl, h⟩
theorem r_len {p : Addr} {ys : List V} (h1 : SqL K H p ys ∨ SqT K H p ys) (h : Q (.int ys.length) H) : rLn K [.ref p] H Q := ⟨p, ys, rfl, h1, h⟩
theorem r_list {p : Addr} {ys : List V} (h1 : SqL K H p ys ∨ SqT K H p ys) (h : ∀ l, H l = none → Q (.ref l) (upd H l (.lst ys))) : rLs K [.ref p] H Q := ⟨p, ys, rfl, h1, h⟩
end
section
variable {X : Cx}
/-- a statement, then the rest, a word of one's own between them -/
def tMid (t u : TS) : TS := fun D σ H => ∃ M : L2.St → Hp → Prop, t ⟨M, D.rt, D.bk, D.ct⟩ σ H ∧ ∀ σ' H', M σ' H' → u D σ' H'
theorem pss_mid {st : Stmt} {rest : List Stmt} {t u : TS} (h1 : PS X st t) (h2 : PSs X rest u) : PSs X (st :: rest) (tMid t u) := by
  refine ⟨fun pins s σ H D I h => ?_⟩
  obtain ⟨M, hm, hu⟩ := h
  refine wpAny_execs_cons (thn (h1.run pins s σ H ⟨M, D.rt, D.bk, D.ct⟩ I hm) fun f s1 q => ?_)
  cases f with
  | next =>
    obtain ⟨σ', H', I', q⟩ := q
    exact h2.run pins s1 σ' H' D I' (hu σ' H' q)
  | ret v => exact q
  | brk => exact q
  | cont => exact q
theorem r_mid {t u : TS} {nx : L2.St → Hp → Prop} {rt : VK} {bk ct : L2.St → Hp → Prop} {σ : L2.St} {H : Hp} (M : L2.St → Hp → Prop) (h1 : t ⟨M, rt, bk, ct⟩ σ H) (h2 : ∀ σ' H', M σ' H' → u ⟨nx, rt, bk, ct⟩ σ' H') : tMid t u ⟨nx, rt, bk, ct⟩ σ H := ⟨M, h1, h2⟩
/-- a store into a list: the heap behind it by a name -/
theorem r_setB {K : PySem.W.Frag} {H : Hp} {b : Addr} {l : List V} {k : Int} {j : Nat} {v : V} {R : Hp → Prop} (h1 : H b = some (.lst l)) (h2 : ixN l.length k = some j) (l' : List V) (h3 : l.set j v = l')
    (h : ∀ H1, H1 b = some (.lst l') → Ext [b] H H1 → (∀ a xs, SqL K H a xs → xs ≠ l → SqL K H1 a xs) → R H1) : rSetL (.ref b) (.int k) v H R := by
  refine ⟨b, l, k, j, rfl, rfl, h1, h2, h _ ?_ (Ext.refl.at_ List.mem_cons_self) fun a xs q hd => ?_⟩
  · rw [h3]
    exact upd_same
  · rcases q with (q | ⟨u, q⟩) | q
    · exact .inl (.inl (by rw [upd_ne (fun z => hd (by rw [z, h1] at q; cases q; rfl))]; exact q))
    · exact .inl (.inr ⟨u, by rw [upd_ne (fun z => by rw [z, h1] at q; cases q)]; exact q⟩)
    · exact .inr q
end
section
variable {P : Program} {w : World} {K : PySem.W.Frag} {mg : Str → Option Value} {base : Heap}
/-- def f(a, .., *v) -/
theorem fn_star {x pv : Str} {params : Arguments} {body : List Stmt} {scope : Scope} {f : Addr} {fd : FuncData} {N ps : List Str} {k : Nat} {sp sp' : Sp}
    (F : FunD K x x params body scope [] [] f fd) (hm : mg x = some (.ref f)) (S : FnScope N (ps ++ [pv]) scope)
    (hb : ∀ (kV doc pm : Value) (an : Option Addr) (cdv ct : Value) (us rest : List Value), us.length = ps.length → bindArgs (PySem.W.fnOf x x params body scope .none kV doc pm an cdv ct) ⟨us ++ rest, []⟩ = (newTuple rest >>= fun t => pure (ps.zip us ++ [(pv, t)])))
    (hbody : ∀ (cdv : Value) (A : Around) (outer : List Env) (s : Shared) (H : Hp) (vs : List V) (Q : VK) (E : XK), Room k (A.deeper (envOfC x scope s.heap.objs.size f cdv)) → sp vs H Q E →
      ∃ t, PSs (cxOf CX0 P w K mg base N x scope f cdv A outer s H E).nox body t ∧ t ⟨fun _ H' => Q .non H', Q, fun _ _ => False, fun _ _ => False⟩ (start N vs) H)
    (himp : ∀ vs H Q E, sp' vs H Q E → ∃ ws rest, vs = ws ++ rest ∧ ws.length = ps.length ∧ rest.length ≤ sizeLine ∧ ∀ p, H p = none → sp (ws ++ [V.ref p]) (upd H p (.tup rest)) Q E) : Fn P w K mg base (k + 1) x sp' := by
  have kp := F.kp
  obtain ⟨oc, od, dV, kV, doc, pm, an, cdv, ct, osl, rfl, lk, hcd, hD, _⟩ := F.ex
  rcases hD with ⟨_, rfl⟩ | ⟨e, _⟩
  · have R := StX.fn_star (P := P) (w := w) (mg := mg) (base := base) (sp := sp) lk hcd S StX.cxUp_none (hb kV doc pm an cdv ct) (fun A outer s H vs Q E hr h => let ⟨t, h1, h2⟩ := hbody cdv A outer s H vs Q E hr h; ⟨t, h1.nox, h2⟩)
    exact ⟨f, hm, kp, R.imp himp⟩
  · exact absurd rfl e
end
end Yk

set_option maxHeartbeats 1000000
/-! Calls by name: two parameters, told in the other order. -/
namespace Yk
open PySem PySem.Spec PyProof.Rows L2
def sw2 {α : Type} (us ws : List α) : List α := match us, ws with
  | [], [a, b] => [b, a]
  | _, _ => []
theorem sw2_rel {vs : List V} {us : List Value} {zs : List V} {ws : List Value} (h1 : Vals vs us) (h2 : Vals zs ws) : Vals (sw2 vs zs) (sw2 us ws) := by
  cases h1 with
  | cons a b => exact .nil
  | nil =>
    cases h2 with
    | nil => exact .nil
    | cons a h2 =>
      cases h2 with
      | nil => exact .nil
      | cons b h2 =>
        cases h2 with
        | nil => exact .cons b (.cons a .nil)
        | cons c h2 => exact .nil
section
variable (P : Program) (w : World) (K : PySem.W.Frag) (mg : Str → Option Value) (base : Heap)
structure FnS (k : Nat) (x : Str) (ks : List Str) (sp : Sp) : Prop where
  run : ∃ f fd ps, mg x = some (.ref f) ∧ PySem.W.keepIn K (.ref f) = true ∧ FnOk P w K mg base CX0 k f fd ps sp ∧ KBinds K fd ps ks sw2 sw2
end
section
variable {P : Program} {w : World} {K : PySem.W.Frag} {mg : Str → Option Value} {base : Heap} {f : Addr} {fd : FuncData}
theorem ok_def {x : Str} {params : Arguments} {body : List Stmt} {scope : Scope} {N ps : List Str} {k : Nat} {sp : Sp}
    (F : FunD K x x params body scope [] [] f fd) (S : FnScope N ps scope) (len : ∀ vs H Q E, sp vs H Q E → vs.length = ps.length)
    (hbody : ∀ (cdv : Value) (A : Around) (outer : List Env) (s : Shared) (H : Hp) (vs : List V) (Q : VK) (E : XK), Room k (A.deeper (envOfC x scope s.heap.objs.size f cdv)) → sp vs H Q E →
      ∃ t, PSs (cxOf CX0 P w K mg base N x scope f cdv A outer s H E).nox body t ∧ t ⟨fun _ H' => Q .non H', Q, fun _ _ => False, fun _ _ => False⟩ (start N vs) H) : FnOk P w K mg base CX0 (k + 1) f fd ps sp :=
  F.ok S len fun cdv A outer s H vs Q E hr h => by
    obtain ⟨t, h1, h2⟩ := hbody cdv A outer s H vs Q E hr h
    exact ⟨t, h1.nox, h2⟩
theorem fn_none {x : Str} {params : Arguments} {body : List Stmt} {scope : Scope} (F : FunD K x x params body scope [] [] f fd) {k : Nat} (hm : mg x = some (.ref f)) : Fn P w K mg base k x (fun _ _ _ _ => False) :=
  ⟨f, hm, F.kp, fun _ _ _ _ _ _ _ _ _ _ _ h => h.elim⟩
theorem fn_of_ok {x : Str} {params : Arguments} {body : List Stmt} {scope : Scope} {ps : List Str} {k : Nat} {sp : Sp}
    (F : FunD K x x params body scope [] [] f fd) (hm : mg x = some (.ref f)) (G : FnOk P w K mg base CX0 k f fd ps sp)
    (hb : ∀ (kV doc pm : Value) (an : Option Addr) (cdv ct : Value) (us : List Value), us.length = ps.length → bindArgs (PySem.W.fnOf x x params body scope .none kV doc pm an cdv ct) ⟨us, []⟩ = pure (ps.zip us)) : Fn P w K mg base k x sp := by
  have b := F.bindsN hb
  have R := G.raw b .nil
  refine ⟨f, hm, F.kp, R.imp fun vs H Q E h => ?_⟩
  rw [List.append_nil]
  exact h
theorem fs_of_ok {x p1 p2 : Str} {params : Arguments} {body : List Stmt} {scope : Scope} {k : Nat} {sp : Sp}
    (F : FunD K x x params body scope [] [] f fd) (hm : mg x = some (.ref f)) (G : FnOk P w K mg base CX0 k f fd [p1, p2] sp)
    (hb : ∀ (kV doc pm : Value) (an : Option Addr) (cdv ct : Value) (a b : Value), bindArgs (PySem.W.fnOf x x params body scope .none kV doc pm an cdv ct) ⟨[], [(p2, a), (p1, b)]⟩ = pure [(p1, b), (p2, a)]) : FnS P w K mg base k x [p2, p1] sp := by
  refine ⟨f, fd, [p1, p2], hm, F.kp, G, ⟨fun s us ws hK hl => ?_, sw2_rel⟩⟩
  obtain ⟨oc, od, dV, kV, doc, pm, an, cdv, ct, osl, rfl, lk, hcd, hD, _⟩ := F.ex
  rcases hD with ⟨_, rfl⟩ | ⟨e, _⟩
  · match us, ws, hl with
    | [], [a, b], _ => exact .of_eq (hb kV doc pm an cdv ct a b)
    | [], [], h => cases h
    | [], [_], h => cases h
    | [], _ :: _ :: _ :: _, h => cases h
    | _ :: _, _, h => cases h
  · exact absurd rfl e
end
section
variable {X : Cx} {k : Nat} {sp : Sp} {x : Str} {p pos : Pos} {ks : List Str} {kws : List Keyword} {tk : TA}
def tRS (sp : Sp) (tk : TA) : TE := fun σ H Q => tk σ H fun zs H1 => ∃ a b, zs = [a, b] ∧ sp [b, a] H1 Q E0
theorem r_RS {σ : L2.St} {H : Hp} {Q : VK} (h : tk σ H fun zs H1 => ∃ a b, zs = [a, b] ∧ sp [b, a] H1 Q E0) : tRS sp tk σ H Q := h
theorem pe_fnS (F : FnS X.prog X.w X.K X.mg X.base k x ks sp) (hr : Room k X.A) (hkw : PK X kws tk) (hg : Gl X x := by rfl) (hdb : (x == ("__debug__" : Str)) = false := by decide)
    (hx : Passes CX0 X E0 := by exact pass0)
    (hall : (backToKw pos (keywordEach kws X.env)).all (·.1.isSome) = true := by rfl) (hks : (backToKw pos (keywordEach kws X.env)).filterMap (·.1) = ks := by rfl)
    (hpl : ((backTo pos (starEach [] X.env)).any (·.1) || (backToKw pos (keywordEach kws X.env)).any (·.1.isNone)) = false := by rfl) :
    PE X (.Call (.Name x p) [] kws pos) (tRS sp tk) := by
  obtain ⟨f, fd, ps, hm, hk, F, hb⟩ := F.run
  refine ⟨fun pins s σ H Q I h => ?_⟩
  refine wpAny_Call_Name_kw (ld_glob I hg hm ?_ hdb)
  refine PySem.W.callWith_KW0 (h₀ := X.base) I.ok.mod.kin hk hall ?_ hpl
  refine thn (hkw.run pos pins s σ H _ I h) fun ws s2 ⟨zs, H2, I2, rz, a, b, ez, q2⟩ => ⟨I2.kIn, ?_⟩
  rw [hks]
  subst ez
  exact run_fnk (us := []) (vs := []) (g := sw2) (gV := sw2) F hr hb hx I2 .nil rz q2
end

/-! stars, and what is a list or a tuple -/
section
variable {X : Cx} {k : Nat} {sp : Sp} {x : Str} {p sp_ pos : Pos} {e : Expr} {es : List Expr} {te : TE} {t : TA}
def tR1 (K : PySem.W.Frag) (sp : Sp) (te : TE) : TE := fun σ H Q => te σ H fun y H1 => ∃ a xs, y = V.ref a ∧ (SqT K H1 a xs ∨ SqL K H1 a xs) ∧ sp xs H1 Q E0
theorem r_R1 {K : PySem.W.Frag} {σ : L2.St} {H : Hp} {Q : VK} (h : te σ H fun y H1 => ∃ a xs, y = V.ref a ∧ (SqT K H1 a xs ∨ SqL K H1 a xs) ∧ sp xs H1 Q E0) : tR1 K sp te σ H Q := h
theorem r_star {K : PySem.W.Frag} {σ : L2.St} {H : Hp} {R : List V → Hp → Prop} (h : te σ H fun x H1 => ∃ p xs, x = V.ref p ∧ (SqT K H1 p xs ∨ SqL K H1 p xs) ∧ t σ H1 fun ys H2 => R (xs ++ ys) H2) : StX.tStar K te t σ H R := h
theorem pe_fnS1 (F : Fn X.prog X.w X.K X.mg X.base k x sp) (hr : Room k X.A) (he : PE X e te) (hg : Gl X x := by rfl) (hdb : (x == ("__debug__" : Str)) = false := by decide) (hx : Passes CX0 X E0 := by exact pass0)
    (hst : starEach [.Starred e sp_] X.env = [(true, eval e X.env)] := by rfl) : PE X (.Call (.Name x p) [.Starred e sp_] [] pos) (tR1 X.K sp te) := by
  obtain ⟨f, hm, hk, F⟩ := F.run
  exact StX.pe_callS1 F hr hk hg hm hx he hdb hst
theorem pe_fnS2 (F : Fn X.prog X.w X.K X.mg X.base k x sp) (hr : Room k X.A) (ha : PA X (e :: es) t) (hg : Gl X x := by rfl) (hdb : (x == ("__debug__" : Str)) = false := by decide) (hx : Passes CX0 X E0 := by exact pass0)
    (he : starEach (e :: es) X.env = (false, eval e X.env) :: starEach es X.env := by rfl) (hst : (backTo pos (starEach es X.env)).any (·.1) = true := by rfl) : PE X (.Call (.Name x p) (e :: es) [] pos) (tR sp t) := by
  obtain ⟨f, hm, hk, F⟩ := F.run
  exact StX.pe_callS2 F hr hk hg hm hx ha hdb he hst
def iSeq (K : PySem.W.Frag) (tl : TE) : TI := fun σ H R => iList K tl σ H R ∨ iTup K tl σ H R
theorem pi_seq {tg l : Expr} {tl : TE} (hl : PE X l tl) : PI X tg l (iSeq X.K tl) :=
  ⟨fun pins s σ H R I h => h.elim (fun h => (pi_list hl).run pins s σ H R I h) (fun h => (pi_tup hl).run pins s σ H R I h)⟩
end
section
variable {K : PySem.W.Frag} {nx : L2.St → Hp → Prop} {rt : VK} {bk ct : L2.St → Hp → Prop} {σ : L2.St} {H : Hp} {Q : VK} {g : TG} {tt : TT} {te : TE} {t : TS} {vs : List Nat}
/-- carried on: what is a list or a tuple at a -/
def Kp (K : PySem.W.Frag) (a : Addr) (xs : List V) (H H2 : Hp) : Prop := (SqL K H a xs → SqL K H2 a xs) ∧ (SqT K H a xs → SqT K H2 a xs)
theorem kp0 {a : Addr} {xs : List V} {H2 : Hp} (e : Ext [] H H2) : Kp K a xs H H2 := ⟨lst0 e, tup0 e⟩
theorem Kp.trans {a : Addr} {xs : List V} {H1 H2 : Hp} (h : Kp K a xs H H1) (g : Kp K a xs H1 H2) : Kp K a xs H H2 := ⟨fun z => g.1 (h.1 z), fun z => g.2 (h.2 z)⟩
abbrev SqQ (K : PySem.W.Frag) (H : Hp) (a : Addr) (xs : List V) : Prop := SqL K H a xs ∨ SqT K H a xs
theorem Kp.q {a : Addr} {xs : List V} {H2 : Hp} (h : Kp K a xs H H2) (z : SqQ K H a xs) : SqQ K H2 a xs := z.elim (fun z => .inl (h.1 z)) fun z => .inr (h.2 z)
theorem sqq0 {a : Addr} {xs : List V} {H2 : Hp} (e : Ext [] H H2) (h : SqQ K H a xs) : SqQ K H2 a xs := (kp0 e).q h
theorem r_lcQ {i : Nat} {a : Addr} {xs : List V} {Qd : Addr → Hp → Prop} {H0 : Hp} (h1 : σ[i]? = some (some (.ref a))) (h2 : SqQ K H0 a xs) (hk : Kp K a xs H0 H) (h : ∀ D, H D = none → ∃ Pv : Nat → Hp → Prop, Pv 0 (upd H D (.lst [])) ∧ (∀ j H2, Pv j H2 → Kp K a xs H0 H2) ∧
    (∀ j x H, xs[j]? = some x → Pv j H → g x (wipe σ vs) H fun σ2 H2 => wipe σ2 vs = wipe σ vs ∧ tt σ2 H2 fun b H3 =>
      if b = true then te σ2 H3 fun y H4 => ∃ acc, H4 D = some (.lst acc) ∧ acc.length < sizeLine ∧ Pv (j + 1) (upd H4 D (.lst (acc ++ [y]))) else Pv (j + 1) H3) ∧ ∀ H, Pv xs.length H → Qd D H) :
    iSeq K (tVar i) σ H fun J H1 => ∀ D, H1 D = none → ∃ W : Nat → Nat → Hp → Prop, (∃ m, W 0 m (upd H1 D (.lst []))) ∧ ∀ i m H, W i m H →
      (J.stop i H ∧ Qd D H) ∨ (J.go i H ∧ ∃ Nx : Hp → Prop, (∀ H', Nx H' → ∃ m', m' < m ∧ W (i + 1) m' H') ∧ ∀ x H', J.yld i H x H' → g x (wipe σ vs) H' fun σ2 H2 => wipe σ2 vs = wipe σ vs ∧ tt σ2 H2 fun b H3 =>
        if b = true then te σ2 H3 fun y H4 => ∃ acc, H4 D = some (.lst acc) ∧ acc.length < sizeLine ∧ Nx (upd H4 D (.lst (acc ++ [y]))) else Nx H3) := by
  rcases h2 with h2 | h2
  · refine Or.inl ⟨_, h1, a, rfl, ⟨xs, hk.1 h2⟩, fun D hD => ?_⟩
    obtain ⟨Pv, p0, pk, ps, pd⟩ := h D hD
    exact lc_list (Qd := Qd D) Pv p0 (fun j H2 _ p => (pk j H2 p).1 h2) ps pd
  · refine Or.inr ⟨_, h1, a, rfl, ⟨xs, hk.2 h2⟩, fun D hD => ?_⟩
    obtain ⟨Pv, p0, pk, ps, pd⟩ := h D hD
    exact lc_tup (Qd := Qd D) Pv p0 (fun j H2 _ p => (pk j H2 p).2 h2) ps pd
theorem r_forQ {i : Nat} {a : Addr} {xs : List V} {H0 : Hp} (h1 : σ[i]? = some (some (.ref a))) (h2 : SqQ K H0 a xs) (hk : Kp K a xs H0 H) (Pv : Nat → L2.St → Hp → Prop) (h0 : Pv 0 σ H) (hl : ∀ i σ H2, i ≤ xs.length → Pv i σ H2 → Kp K a xs H0 H2)
    (hs : ∀ i x σ H, xs[i]? = some x → Pv i σ H → g x σ H fun σ2 H2 => t ⟨Pv (i + 1), rt, nx, Pv (i + 1)⟩ σ2 H2) (hd : ∀ σ H, Pv xs.length σ H → nx σ H) : tFor (iSeq K (tVar i)) g t ⟨nx, rt, bk, ct⟩ σ H := by
  rcases h2 with h2 | h2
  · exact Or.inl ⟨_, h1, a, rfl, ⟨xs, hk.1 h2⟩, for_list (D := ⟨nx, rt, nx, nx⟩) Pv h0 (fun i σ H2 z p => (hl i σ H2 z p).1 h2) hs hd⟩
  · exact Or.inr ⟨_, h1, a, rfl, ⟨xs, hk.2 h2⟩, for_tup (D := ⟨nx, rt, nx, nx⟩) Pv h0 (fun i σ H2 z p => (hl i σ H2 z p).2 h2) hs hd⟩
end
/-! rows that go together -/
section
variable {α β : Type}
def Rel (R : V → α → Prop) (xs : List V) (rs : List α) : Prop := xs.length = rs.length ∧ ∀ (i : Nat) (v : V) (r : α), xs[i]? = some v → rs[i]? = some r → R v r
variable {R R' : V → α → Prop} {xs ys : List V} {rs ts : List α}
theorem Rel.nil : Rel R [] [] := ⟨rfl, fun i v q h => by simp at h⟩
theorem Rel.cons {v : V} {r : α} (h : R v r) (g : Rel R xs rs) : Rel R (v :: xs) (r :: rs) := by
  refine ⟨by simp [g.1], fun i w u a b => ?_⟩
  cases i with
  | zero =>
    simp at a b
    subst a b
    exact h
  | succ i =>
    simp at a b
    exact g.2 i w u a b
theorem Rel.imp (h : Rel R xs rs) (f : ∀ v r, R v r → R' v r) : Rel R' xs rs := ⟨h.1, fun i v r a b => f v r (h.2 i v r a b)⟩
theorem Rel.impM (h : Rel R xs rs) (f : ∀ v r, r ∈ rs → R v r → R' v r) : Rel R' xs rs := ⟨h.1, fun i v r a b => f v r (List.mem_of_getElem? b) (h.2 i v r a b)⟩
theorem Rel.at_ (h : Rel R xs rs) {i : Nat} {v : V} (hv : xs[i]? = some v) : ∃ r, rs[i]? = some r ∧ R v r := by
  have hi : i < rs.length := by rw [← h.1]; exact (List.getElem?_eq_some_iff.mp hv).1
  exact ⟨rs[i], List.getElem?_eq_getElem hi, h.2 i v _ hv (List.getElem?_eq_getElem hi)⟩
theorem Rel.app (h : Rel R xs rs) (g : Rel R ys ts) : Rel R (xs ++ ys) (rs ++ ts) := by
  refine ⟨by rw [List.length_append, List.length_append, h.1, g.1], fun j v q a b => ?_⟩
  by_cases hj : j < xs.length
  · rw [List.getElem?_append_left hj] at a
    rw [List.getElem?_append_left (by rw [← h.1]; exact hj)] at b
    exact h.2 j v q a b
  · rw [List.getElem?_append_right (by omega)] at a
    rw [List.getElem?_append_right (by rw [← h.1]; omega), ← h.1] at b
    exact g.2 _ v q a b
theorem Rel.hd {v : V} {r : α} (h : Rel R (v :: xs) (r :: rs)) : R v r := h.2 0 v r rfl rfl
theorem Rel.tl {v : V} {r : α} (h : Rel R (v :: xs) (r :: rs)) : Rel R xs rs := ⟨by simpa using h.1, fun i w u a b => h.2 (i + 1) w u (by simpa using a) (by simpa using b)⟩
theorem Rel.cases {v : V} (h : Rel R (v :: xs) rs) : ∃ r t, rs = r :: t ∧ R v r ∧ Rel R xs t := by
  cases rs with
  | nil => exact absurd h.1 (by simp)
  | cons r t => exact ⟨r, t, rfl, h.hd, h.tl⟩
theorem Rel.take (h : Rel R xs rs) (n : Nat) : Rel R (xs.take n) (rs.take n) := by
  refine ⟨by rw [List.length_take, List.length_take, h.1], fun j v q a b => ?_⟩
  rw [List.getElem?_take] at a b
  split at a
  · rename_i hj
    rw [if_pos hj] at b
    exact h.2 j v q a b
  · cases a
theorem Rel.drop (h : Rel R xs rs) (n : Nat) : Rel R (xs.drop n) (rs.drop n) := by
  refine ⟨by rw [List.length_drop, List.length_drop, h.1], fun j v q a b => ?_⟩
  rw [List.getElem?_drop] at a b
  exact h.2 _ v q a b
theorem Rel.perm (p : ys.Perm xs) : ∀ {rs : List α}, Rel R xs rs → ∃ ts, Rel R ys ts ∧ ts.Perm rs := by
  induction p with
  | nil => exact fun {rs} h => ⟨rs, h, List.Perm.refl _⟩
  | cons x _ ih =>
    intro rs h
    obtain ⟨r, t, rfl, a, b⟩ := h.cases
    obtain ⟨ts, c, d⟩ := ih b
    exact ⟨r :: ts, .cons a c, d.cons r⟩
  | swap x y l =>
    intro rs h
    obtain ⟨r1, t, rfl, a, b⟩ := h.cases
    obtain ⟨r2, t, rfl, c, d⟩ := b.cases
    exact ⟨r2 :: r1 :: t, .cons c (.cons a d), List.Perm.swap r1 r2 t⟩
  | trans _ _ ih1 ih2 =>
    intro rs h
    obtain ⟨ts, a, b⟩ := ih2 h
    obtain ⟨us, c, d⟩ := ih1 a
    exact ⟨us, c, d.trans b⟩
theorem Rel.snoc {v : V} {r : α} (h : Rel R xs rs) (g : R v r) : Rel R (xs ++ [v]) (rs ++ [r]) := h.app (.cons g .nil)
end
/-! steps -/
section
variable {K : PySem.W.Frag} {nx : L2.St → Hp → Prop} {rt : VK} {bk ct : L2.St → Hp → Prop} {σ : L2.St} {H : Hp} {Q : VK} {te : TE} {x y : V}
theorem r_app {l : Addr} {xs : List V} (h1 : H l = some (.lst xs)) (h2 : xs.length ≤ 4000) (h : Q .non (upd H l (.lst (xs ++ [y])))) : rAppend (.ref l) [y] H Q := ⟨l, xs, y, rfl, rfl, h1, Nat.lt_of_le_of_lt h2 (by decide), h⟩
theorem ty_lst {l : Addr} {xs : List V} (h : H l = some (.lst xs)) : tyV K "list" (.ref l) H := .inl ⟨rfl, xs, .inl (.inl h)⟩
theorem r_aug {i : Nat} {ti : TIp} (h1 : σ[i]? = some (some x)) (h : te σ H fun y H1 => ti x y H1 fun z H2 => nx (σ.set i (some z)) H2) : tAug i te ti ⟨nx, rt, bk, ct⟩ σ H := ⟨x, h1, h⟩
theorem r_ipI {f : Int → Int → Int} {i j : Int} {R : V → Hp → Prop} (h : R (.int (f i j)) H) : ipI f (.int i) (.int j) H R := ⟨i, j, rfl, rfl, h⟩
theorem cut_drop {xs : List V} {n : Nat} (h : n ≤ xs.length) : cutV xs (some (n : Int)) none = xs.drop n := by
  have e : HT.sIx xs.length 0 (some (n : Int)) = n := by rw [HT.sIx_nat]; exact Nat.min_eq_left h
  have e2 : HT.sIx xs.length xs.length none = xs.length := rfl
  unfold cutV
  rw [e, e2]
  exact List.take_of_length_le (by simp)
theorem cut_take {xs : List V} {n : Nat} (h : n ≤ xs.length) : cutV xs none (some (n : Int)) = xs.take n := by
  have e : HT.sIx xs.length xs.length (some (n : Int)) = n := by rw [HT.sIx_nat]; exact Nat.min_eq_left h
  have e2 : HT.sIx xs.length 0 none = 0 := rfl
  unfold cutV
  rw [e, e2]
  simp
end
section
theorem ixN_at {n j : Nat} {i : Int} (h : i = (j : Int)) (hj : j < n) : ixN n i = some j := by
  unfold ixN
  rw [if_pos (by omega), if_pos (by omega), h, Int.toNat_natCast]
theorem at0 {v : V} {xs : List V} : atI (v :: xs) 0 = some v := atI_nat (j := 0) rfl
theorem at1 {v w : V} {xs : List V} : atI (v :: w :: xs) 1 = some w := atI_nat (j := 1) rfl
theorem at_n {v : V} {xs : List V} {n : Nat} {i : Int} (hi : i = (n : Int)) (h : xs[n]? = some v) : atI xs i = some v := by rw [hi]; exact atI_nat h
end
theorem r_ndec {p : Prop} [Decidable p] {A B : Prop} (h1 : ¬ p → A) (h2 : p → B) : if (!decide p) = true then A else B := by
  by_cases hp : p
  · rw [decide_eq_true hp, if_neg (by decide)]; exact h2 hp
  · rw [decide_eq_false hp, if_pos (by decide)]; exact h1 hp
def rTs (K : PySem.W.Frag) : List V → Hp → VK → Prop := fun xs H Q => ∃ p ys, xs = [.ref p] ∧ ((SqL K H p ys ∧ ∀ l, H l = none → Q (.ref l) (upd H l (.tup ys))) ∨ (SqT K H p ys ∧ Q (.ref p) H))
theorem cr_tuple {X : Cx} : CallR X (.type "tuple") (rTs X.K) := call_tuple_of
theorem r_tupleL {K : PySem.W.Frag} {H : Hp} {Q : VK} {p : Addr} {ys : List V} (h : SqL K H p ys) (k : ∀ l, H l = none → Q (.ref l) (upd H l (.tup ys))) : rTs K [.ref p] H Q := ⟨p, ys, rfl, .inl ⟨h, k⟩⟩
end Yk

/-! Rational numbers: what the program's reckoning in lowest terms is worth. -/
namespace Yk
/-- the sum in lowest terms, as the program reckons it -/
theorem add_low (a b : Rat) : (a + b).num = (a.num * ((b.den / Nat.gcd a.den b.den : Nat) : Int) + b.num * ((a.den / Nat.gcd a.den b.den : Nat) : Int)) / ((Nat.gcd (a.num * ((b.den / Nat.gcd a.den b.den : Nat) : Int) + b.num * ((a.den / Nat.gcd a.den b.den : Nat) : Int)).natAbs (Nat.gcd a.den b.den) : Nat) : Int)
    ∧ (a + b).den = a.den / Nat.gcd a.den b.den * (b.den / Nat.gcd (a.num * ((b.den / Nat.gcd a.den b.den : Nat) : Int) + b.num * ((a.den / Nat.gcd a.den b.den : Nat) : Int)).natAbs (Nat.gcd a.den b.den)) := by
  have e : a + b = Rat.add a b := rfl
  rw [e]
  unfold Rat.add
  dsimp only
  by_cases hg : Nat.gcd a.den b.den = 1
  · rw [dif_pos hg]
    simp [hg]
  · rw [dif_neg hg]
    have hmn : ∀ (num : Int) (den g : Nat) (h1 : (g : Int) ∣ num) (h2 : g ∣ den) (h3) (h4), (Rat.maybeNormalize num den g h1 h2 h3 h4).num = num / (g : Int) ∧ (Rat.maybeNormalize num den g h1 h2 h3 h4).den = den / g := by
      intro num den g h1 h2 h3 h4
      unfold Rat.maybeNormalize
      split
      · rename_i q
        subst q
        simp
      · exact ⟨by simp [Int.divExact], by simp [Nat.divExact]⟩
    obtain ⟨e1, e2⟩ := hmn _ _ _ _ _ _ _
    refine ⟨e1, ?_⟩
    rw [e2]
    have hd : Nat.gcd (a.num * ((b.den / Nat.gcd a.den b.den : Nat) : Int) + b.num * ((a.den / Nat.gcd a.den b.den : Nat) : Int)).natAbs (Nat.gcd a.den b.den) ∣ b.den := Nat.dvd_trans (Nat.gcd_dvd_right _ _) (Nat.gcd_dvd_right _ _)
    exact Nat.mul_div_assoc _ hd
theorem mul_low (a b : Rat) : (a * b).num = a.num / ((Nat.gcd a.num.natAbs b.den : Nat) : Int) * (b.num / ((Nat.gcd b.num.natAbs a.den : Nat) : Int)) ∧ (a * b).den = a.den / Nat.gcd b.num.natAbs a.den * (b.den / Nat.gcd a.num.natAbs b.den) := by
  have e : a * b = Rat.mul a b := rfl
  rw [e]
  unfold Rat.mul
  simp [Int.divExact, Nat.divExact]
/-- size: both numbers below 2 ^ n -/
def Sz (n : Nat) (q : Rat) : Prop := q.num.natAbs < 2 ^ n ∧ q.den < 2 ^ n
theorem Sz.mono {m n : Nat} {q : Rat} (h : Sz m q) (e : m ≤ n) : Sz n q := ⟨Nat.lt_of_lt_of_le h.1 (Nat.pow_le_pow_right (by decide) e), Nat.lt_of_lt_of_le h.2 (Nat.pow_le_pow_right (by decide) e)⟩
theorem sz_mk {n : Nat} {q : Rat} {a : Int} {b : Nat} (hb : 0 < b) (e : q = mkRat a b) (h1 : a.natAbs < 2 ^ n) (h2 : b < 2 ^ n) : Sz n q := by
  subst e
  constructor
  · rw [Rat.num_mkRat, if_neg (by omega)]
    have hd : ((Nat.gcd b a.natAbs : Nat) : Int) ∣ a := Int.natAbs_dvd_natAbs.mp (by simpa using Nat.gcd_dvd_right b a.natAbs)
    rw [Int.natAbs_ediv_of_dvd hd]
    refine Nat.lt_of_le_of_lt (Nat.div_le_self _ _) h1
  · rw [Rat.den_mkRat, if_neg (by omega)]
    exact Nat.lt_of_le_of_lt (Nat.div_le_self _ _) h2
theorem sz_add {m n : Nat} {a b : Rat} (ha : Sz m a) (hb : Sz n b) : Sz (m + n + 1) (a + b) := by
  have h1 : (a.num * (b.den : Int)).natAbs < 2 ^ (m + n) := by
    rw [Int.natAbs_mul, Nat.pow_add]
    exact Nat.mul_lt_mul'' ha.1 (by simpa using hb.2)
  have h2 : (b.num * (a.den : Int)).natAbs < 2 ^ (m + n) := by
    rw [Int.natAbs_mul, Nat.pow_add, Nat.mul_comm]
    exact Nat.mul_lt_mul'' (by simpa using ha.2) hb.1
  have h3 : 2 ^ (m + n + 1) = 2 ^ (m + n) + 2 ^ (m + n) := by rw [Nat.pow_succ]; omega
  refine sz_mk (a := a.num * b.den + b.num * a.den) (b := a.den * b.den) (Nat.mul_pos a.den_pos b.den_pos) ?_ ?_ ?_
  · rw [Rat.add_def, Rat.normalize_eq_mkRat]
  · have := Int.natAbs_add_le (a.num * (b.den : Int)) (b.num * (a.den : Int))
    omega
  · have h4 : a.den * b.den < 2 ^ m * 2 ^ n := Nat.mul_lt_mul'' ha.2 hb.2
    rw [← Nat.pow_add] at h4
    omega
theorem sz_mul {m n : Nat} {a b : Rat} (ha : Sz m a) (hb : Sz n b) : Sz (m + n) (a * b) := by
  refine sz_mk (a := a.num * b.num) (b := a.den * b.den) (Nat.mul_pos a.den_pos b.den_pos) ?_ ?_ ?_
  · rw [Rat.mul_def, Rat.normalize_eq_mkRat]
  · rw [Int.natAbs_mul, Nat.pow_add]
    exact Nat.mul_lt_mul'' ha.1 hb.1
  · rw [Nat.pow_add]
    exact Nat.mul_lt_mul'' ha.2 hb.2
theorem sz_neg {n : Nat} {a : Rat} (h : Sz n a) : Sz n (-a) := by
  refine ⟨?_, ?_⟩
  · rw [Rat.neg_num, Int.natAbs_neg]; exact h.1
  · exact h.2
theorem sz_inv {n : Nat} {a : Rat} (h : Sz n a) (h0 : 0 < a) : Sz n a⁻¹ := by
  have h1 : 0 < a.num := by
    have := (Rat.lt_iff 0 a).mp h0
    simpa using this
  refine ⟨?_, ?_⟩
  · rw [Rat.num_inv, Int.sign_eq_one_of_pos h1, Int.one_mul]
    simpa using h.2
  · rw [Rat.den_inv, if_neg (by omega)]
    exact h.1
theorem num_pos' {q : Rat} (h : 0 < q) : 0 < q.num := by
  have := (Rat.lt_iff 0 q).mp h
  simpa using this
theorem num_nn {q : Rat} (h : 0 ≤ q) : 0 ≤ q.num := Rat.num_nonneg.mpr h
theorem inv_parts {q : Rat} (h : 0 < q) : q⁻¹.num = (q.den : Int) ∧ (q⁻¹.den : Int) = q.num := by
  have h1 := num_pos' h
  refine ⟨?_, ?_⟩
  · rw [Rat.num_inv, Int.sign_eq_one_of_pos h1, Int.one_mul]
  · rw [Rat.den_inv, if_neg (by omega)]
    omega
/-- two numbers in lowest terms -/
theorem mk_parts (a b : Nat) (hb : 0 < b) : (mkRat (a : Int) b).num = ((a / Nat.gcd a b : Nat) : Int) ∧ (mkRat (a : Int) b).den = b / Nat.gcd a b := by
  rw [Rat.num_mkRat, Rat.den_mkRat, if_neg (by omega), if_neg (by omega)]
  simp [Nat.gcd_comm]
theorem mk_nn (a b : Nat) : 0 ≤ mkRat (a : Int) b := by
  rcases Nat.eq_zero_or_pos b with h | h
  · subst h; simp
  · have e := (mk_parts a b h).1
    have : 0 ≤ (mkRat (a : Int) b).num := by rw [e]; exact Int.natCast_nonneg _
    exact Rat.num_nonneg.mp this
end Yk
namespace Yk
theorem add_int (p q : Rat) : (p + q).num = (p.num * ((q.den : Int) / ((Nat.gcd p.den q.den : Nat) : Int)) + q.num * ((p.den : Int) / ((Nat.gcd p.den q.den : Nat) : Int))) / ((Nat.gcd (p.num * ((q.den : Int) / ((Nat.gcd p.den q.den : Nat) : Int)) + q.num * ((p.den : Int) / ((Nat.gcd p.den q.den : Nat) : Int))).natAbs (Nat.gcd p.den q.den) : Nat) : Int)
    ∧ ((p + q).den : Int) = (p.den : Int) / ((Nat.gcd p.den q.den : Nat) : Int) * ((q.den : Int) / ((Nat.gcd (p.num * ((q.den : Int) / ((Nat.gcd p.den q.den : Nat) : Int)) + q.num * ((p.den : Int) / ((Nat.gcd p.den q.den : Nat) : Int))).natAbs (Nat.gcd p.den q.den) : Nat) : Int)) := by
  obtain ⟨h1, h2⟩ := add_low p q
  constructor
  · rw [h1]
    simp only [Int.natCast_ediv]
  · rw [h2]
    simp only [Int.natCast_ediv, Int.natCast_mul]
theorem mul_int' (p q : Rat) : (p * q).num = p.num / ((Nat.gcd p.num.natAbs q.den : Nat) : Int) * (q.num / ((Nat.gcd q.num.natAbs p.den : Nat) : Int)) ∧ ((p * q).den : Int) = (p.den : Int) / ((Nat.gcd q.num.natAbs p.den : Nat) : Int) * ((q.den : Int) / ((Nat.gcd p.num.natAbs q.den : Nat) : Int)) := by
  obtain ⟨h1, h2⟩ := mul_low p q
  refine ⟨h1, ?_⟩
  rw [h2]
  simp only [Int.natCast_ediv, Int.natCast_mul]
theorem abs_div_le (a b : Int) (hb : 0 < b) : (a / b).natAbs ≤ a.natAbs := by
  have h1 := Int.natAbs_ediv_le_natAbs a b
  exact h1
end Yk
namespace Yk
def cmpQ' (p q : Rat) : Int := if p < q then -1 else if q < p then 1 else 0
theorem cmp_add (p q r : Rat) : cmpQ' (p + r) (q + r) = cmpQ' p q := by
  unfold cmpQ'
  have h1 : p + r < q + r ↔ p < q := Rat.add_lt_add_right
  have h2 : q + r < p + r ↔ q < p := Rat.add_lt_add_right
  simp only [h1, h2]
theorem cmp_more (p r : Rat) (hr : 0 ≤ r) : cmpQ' (p + r) p = if 0 < r then 1 else 0 := by
  unfold cmpQ'
  by_cases h : 0 < r
  · rw [if_neg (by grind), if_pos (by grind), if_pos h]
  · rw [if_neg (by grind), if_neg (by grind), if_neg h]
theorem cmp_mul (p q r : Rat) (hr : 0 ≤ r) : cmpQ' (p * r) (r * q) = if 0 < r then cmpQ' p q else 0 := by
  rw [Rat.mul_comm r q]
  unfold cmpQ'
  by_cases h : 0 < r
  · have h1 : p * r < q * r ↔ p < q := Rat.mul_lt_mul_right h
    have h2 : q * r < p * r ↔ q < p := Rat.mul_lt_mul_right h
    simp only [h1, h2, if_pos h]
  · have e : r = 0 := by grind
    subst e
    simp
theorem add_nn {a b : Rat} (h1 : 0 ≤ a) (h2 : 0 ≤ b) : 0 ≤ a + b := Rat.add_nonneg h1 h2
theorem mul_nn {a b : Rat} (h1 : 0 ≤ a) (h2 : 0 ≤ b) : 0 ≤ a * b := Rat.mul_nonneg h1 h2
theorem r_sub1 (p q : Rat) : p + q - q = p := by grind
theorem r_sub2 (p q r : Rat) : p + q + r - (r + q) = p := by grind
theorem r_sub3 (p : Rat) : p - p = 0 := by grind
theorem r_div1 {p q : Rat} (h : 0 < q) : p * q / q = p := by grind
theorem r_div2 {p q : Rat} (h : 0 < q) : p / q * q = p := by grind
theorem r_div3 {q : Rat} (h : 0 < q) : q / q = 1 := by grind
theorem r_dist (p q r : Rat) : p * q + p * r = p * (q + r) := by grind
theorem le1 {p q : Rat} (h : 0 ≤ p) : q ≤ p + q := by grind
theorem le2 {p q r : Rat} (h : 0 ≤ p) : r + q ≤ p + q + r := by grind
theorem num_pos_iff {r : Rat} (h : 0 ≤ r) : 0 < r.num ↔ 0 < r := by
  constructor
  · intro h1
    exact (Rat.lt_iff 0 r).mpr (by simpa using h1)
  · exact num_pos'
theorem sz_div {m n : Nat} {a b : Rat} (ha : Sz m a) (hb : Sz n b) (h : 0 < b) : Sz (m + n) (a / b) := by
  rw [Rat.div_def]
  exact sz_mul ha (sz_inv hb h)
end Yk

set_option maxHeartbeats 1000000
namespace Yk
open PySem PySem.Spec PyProof.Rows L2
def top (i : Nat) : Stmt := PySem.Challenge.pw_bandheld_k04_whole_levels_fall.main.body.getD i (.Pass ⟨0, 0, 0, 0⟩)
structure Bt (mg : Str → Option Value) : Prop where
  int : mg "int" = none
  len : mg "len" = none
  list : mg "list" = none
  tuple : mg "tuple" = none
  str : mg "str" = none
  bool : mg "bool" = none
  max : mg "max" = none
  min : mg "min" = none
  all : mg "all" = none
  any : mg "any" = none
  sum : mg "sum" = none
  isinstance : mg "isinstance" = none
  zip : mg "zip" = none
  range : mg "range" = none
  divmod : mg "divmod" = none
structure Bg (mg : Str → Option Value) : Prop extends Bt mg where
  gcd : mg "gcd" = some (.builtin "math.gcd")
/-- an amount: its two numbers in a tuple -/
def Am (K : PySem.W.Frag) (H : Hp) (v : V) (q : Rat) : Prop := ∃ a, v = .ref a ∧ SqT K H a [.int q.num, .int (q.den : Int)]
theorem Am.x {S : List Addr} {K : PySem.W.Frag} {H H1 : Hp} {v : V} {q : Rat} (e : Ext S H H1) (h : Am K H v q) (hs : ∀ b ∈ S, ∃ l, H b = some (.lst l)) : Am K H1 v q := by
  obtain ⟨a, rfl, h⟩ := h
  exact ⟨a, rfl, tupX e h hs⟩
theorem Am.x0 {K : PySem.W.Frag} {H H1 : Hp} {v : V} {q : Rat} (e : Ext [] H H1) (h : Am K H v q) : Am K H1 v q := h.x e fun _ z => nomatch z
/-- what an amount's promise hands back -/
def RetAm (K : PySem.W.Frag) (H : Hp) (Q : VK) (q : Rat) : Prop := ∀ v H', Ext [] H H' → Am K H' v q → Q v H'
def spAdded (K : PySem.W.Frag) : Sp := fun vs H Q _ => ∃ v1 v2 p q, vs = [v1, v2] ∧ Am K H v1 p ∧ Am K H v2 q ∧ Sz 4000 p ∧ Sz 4000 q ∧ RetAm K H Q (p + q)
end Yk
namespace Yk
open PySem PySem.Spec PyProof.Rows L2
theorem cdiv {n : Nat} {i : Int} {b : Nat} (h0 : 0 < b) (hb : b < 2 ^ n) (hn : 0 < n) (h9 : n ≤ 9000) : CDivW i (b : Int) := wide_div (by omega) (by simpa using hb) hn h9
theorem cmul {m n : Nat} {i j : Int} (hi : i.natAbs < 2 ^ m) (hj : j.natAbs < 2 ^ n) (h0 : 0 < m) (h1 : 0 < n) (h : m + n ≤ 1000000) : CMulW i j := wide_mul hi hj h0 h1 h
theorem dlt {n : Nat} {a b : Int} (h : a.natAbs < 2 ^ n) : (a / b).natAbs < 2 ^ n := Nat.lt_of_le_of_lt (Int.natAbs_ediv_le_natAbs a b) h
end Yk
namespace Yk
open PySem PySem.Spec PyProof.Rows L2
/-- a row of amounts -/
def Ams (K : PySem.W.Frag) (H : Hp) (vs : List V) (qs : List Rat) : Prop := vs.length = qs.length ∧ ∀ (i : Nat) (v : V) (q : Rat), vs[i]? = some v → qs[i]? = some q → Am K H v q
theorem Ams.x {S : List Addr} {K : PySem.W.Frag} {H H1 : Hp} {vs : List V} {qs : List Rat} (e : Ext S H H1) (h : Ams K H vs qs) (hs : ∀ b ∈ S, ∃ l, H b = some (.lst l)) : Ams K H1 vs qs := ⟨h.1, fun i v q a b => (h.2 i v q a b).x e hs⟩
theorem Ams.x0 {K : PySem.W.Frag} {H H1 : Hp} {vs : List V} {qs : List Rat} (e : Ext [] H H1) (h : Ams K H vs qs) : Ams K H1 vs qs := h.x e fun _ z => nomatch z
theorem Ams.at_ {K : PySem.W.Frag} {H : Hp} {vs : List V} {qs : List Rat} (h : Ams K H vs qs) {i : Nat} {v : V} (hv : vs[i]? = some v) : ∃ q, qs[i]? = some q ∧ Am K H v q := by
  have hi : i < qs.length := by rw [← h.1]; exact (List.getElem?_eq_some_iff.mp hv).1
  exact ⟨qs[i], List.getElem?_eq_getElem hi, h.2 i v _ hv (List.getElem?_eq_getElem hi)⟩
theorem Ams.nil {K : PySem.W.Frag} {H : Hp} : Ams K H [] [] := ⟨rfl, fun i v q h => by simp at h⟩
theorem Ams.cons {K : PySem.W.Frag} {H : Hp} {v : V} {q : Rat} {vs : List V} {qs : List Rat} (h : Am K H v q) (r : Ams K H vs qs) : Ams K H (v :: vs) (q :: qs) := by
  refine ⟨by simp [r.1], fun i w u a b => ?_⟩
  cases i with
  | zero =>
    simp at a b
    subst a b
    exact h
  | succ i =>
    simp at a b
    exact r.2 i w u a b
/-- the smallest, the largest of a row -/
def minQ (p : Rat) (qs : List Rat) : Rat := qs.foldl (fun m q => if q < m then q else m) p
def maxQ (p : Rat) (qs : List Rat) : Rat := qs.foldl (fun m q => if m < q then q else m) p
theorem fold_take {α : Type} {f : α → Rat → α} {z : α} {qs : List Rat} {i : Nat} {q : Rat} (h : qs[i]? = some q) : (qs.take (i + 1)).foldl f z = f ((qs.take i).foldl f z) q := by
  obtain ⟨hl, e⟩ := List.getElem?_eq_some_iff.mp h
  rw [← List.take_append_getElem hl, List.foldl_append, e]
  rfl
theorem minQ_mem {m : Nat} {p : Rat} : ∀ {qs : List Rat}, Sz m p → (∀ q ∈ qs, Sz m q) → Sz m (minQ p qs)
  | [], h, _ => h
  | q :: r, h, hq => by
    show Sz m (minQ (if q < p then q else p) r)
    refine minQ_mem ?_ fun x hx => hq x (List.mem_cons_of_mem _ hx)
    split
    · exact hq q List.mem_cons_self
    · exact h
theorem maxQ_mem {m : Nat} {p : Rat} : ∀ {qs : List Rat}, Sz m p → (∀ q ∈ qs, Sz m q) → Sz m (maxQ p qs)
  | [], h, _ => h
  | q :: r, h, hq => by
    show Sz m (maxQ (if p < q then q else p) r)
    refine maxQ_mem ?_ fun x hx => hq x (List.mem_cons_of_mem _ hx)
    split
    · exact hq q List.mem_cons_self
    · exact h
end Yk
namespace Yk
open PySem PySem.Spec PyProof.Rows L2
/-- what five numbers the bag may hold -/
def Bag5 (ns : List Int) (it : Addr) (l : List V) : Prop := ∃ (pos : Nat) (rest seed cnt : Int), l = [.ref it, .int (pos : Int), .int rest, .int seed, .int cnt] ∧ pos ≤ ns.length ∧ 0 ≤ rest ∧ 0 ≤ seed ∧ seed < 2147483629
structure Bag where
  a : Addr
  it : Addr
  ns : List Int
structure BagAt (K : PySem.W.Frag) (H : Hp) (b : Bag) : Prop where
  ex : ∃ l : List V, H b.a = some (.lst l) ∧ SqL K H b.it (b.ns.map V.int) ∧ b.ns.length ≤ 63 ∧ Bag5 b.ns b.it l
theorem BagAt.lst {K : PySem.W.Frag} {H : Hp} {b : Bag} (h : BagAt K H b) : ∃ l, H b.a = some (.lst l) := by
  obtain ⟨l, h1, _⟩ := h.ex
  exact ⟨l, h1⟩
theorem BagAt.x0 {K : PySem.W.Frag} {H H1 : Hp} {b : Bag} (h : BagAt K H b) (e : Ext [] H H1) : BagAt K H1 b := by
  obtain ⟨l, h1, h2, h3, h4⟩ := h.ex
  exact ⟨l, e _ _ h1 (fun z => nomatch z), lst0 e h2, h3, h4⟩
theorem BagAt.new {K : PySem.W.Frag} {H : Hp} {b : Bag} {p : Addr} {o : HO} (h : BagAt K H b) (hp : H p = none) : BagAt K (upd H p o) b := h.x0 (Ext.refl.new hp)
theorem BagAt.ne {K : PySem.W.Frag} {H : Hp} {b : Bag} {p : Addr} (h : BagAt K H b) (hp : H p = none) : b.a ≠ p := by
  obtain ⟨l, q⟩ := h.lst
  exact ne_of_none q hp
theorem BagAt.ne' {K : PySem.W.Frag} {H : Hp} {b : Bag} {p : Addr} (hp : H p = none) (h : BagAt K H b) : b.a ≠ p := h.ne hp
/-- what was new to a heap with the bag may change later -/
theorem BagAt.own {K : PySem.W.Frag} {H0 H : Hp} {b : Bag} {p : Addr} {o : HO} (h0 : BagAt K H0 b) (hp : H0 p = none) (h : BagAt K H b) : BagAt K (upd H p o) b := by
  obtain ⟨l0, a0, a1, _, _⟩ := h0.ex
  obtain ⟨l, h1, h2, h3, h4⟩ := h.ex
  refine ⟨l, by rw [upd_ne (ne_of_none a0 hp)]; exact h1, ?_, h3, h4⟩
  rcases a1 with a1 | a1
  · have hne : b.it ≠ p := by
      rcases a1 with a1 | ⟨u, a1⟩
      · exact ne_of_none a1 hp
      · exact ne_of_none a1 hp
    rcases h2 with (h2 | ⟨u, h2⟩) | h2
    · exact .inl (.inl (by rw [upd_ne hne]; exact h2))
    · exact .inl (.inr ⟨u, by rw [upd_ne hne]; exact h2⟩)
    · exact .inr h2
  · exact .inr a1
theorem tupB {K : PySem.W.Frag} {H H1 : Hp} {a : Addr} {b : Bag} {xs : List V} (hb : BagAt K H b) (e : Ext [b.a] H H1) (h : SqT K H a xs) : SqT K H1 a xs := tupX e h fun c hc => by rw [List.mem_singleton.mp hc]; exact hb.lst
theorem Am.b {K : PySem.W.Frag} {H H1 : Hp} {b : Bag} {v : V} {q : Rat} (hb : BagAt K H b) (e : Ext [b.a] H H1) (h : Am K H v q) : Am K H1 v q := h.x e fun c hc => by rw [List.mem_singleton.mp hc]; exact hb.lst
theorem Am.b' {K : PySem.W.Frag} {H H1 : Hp} {b : Bag} {v : V} {q : Rat} (e : Ext [b.a] H H1) (hb : BagAt K H b) (h : Am K H v q) : Am K H1 v q := h.b hb e
theorem Ams.b {K : PySem.W.Frag} {H H1 : Hp} {b : Bag} {v : List V} {q : List Rat} (hb : BagAt K H b) (e : Ext [b.a] H H1) (h : Ams K H v q) : Ams K H1 v q := h.x e fun c hc => by rw [List.mem_singleton.mp hc]; exact hb.lst
theorem Am.n {K : PySem.W.Frag} {H : Hp} {p : Addr} {o : HO} {v : V} {q : Rat} (h : Am K H v q) (hp : H p = none) : Am K (upd H p o) v q := h.x0 (Ext.refl.new hp)
theorem am_lit {K : PySem.W.Frag} {H : Hp} {a : Addr} {n : Int} {d : Nat} (hd : d ≠ 0) (hc : n.natAbs.Coprime d) (h : SqT K H a [.int n, .int (d : Int)]) : Am K H (.ref a) ⟨n, d, hd, hc⟩ := ⟨a, rfl, h⟩
end Yk

open PySem PySem.Spec PyProof.Rows L2 Yk
local macro_rules | `(tactic| walk_at "sq") => `(tactic| first
  | assumption
  | exact tupS
  | exact lstS
  | ((refine' tupN ?h1 (by assumption)); (case h1 => walk_at "sq"))
  | ((refine' lstN ?h1 (by assumption)); (case h1 => walk_at "sq"))
  | ((refine' tup0 (by assumption) ?h1); (case h1 => walk_at "sq"))
  | ((refine' lst0 (by assumption) ?h1); (case h1 => walk_at "sq")))
local macro_rules | `(tactic| walk_at "side") => `(tactic| first | assumption | decide | omega | exact Or.inr ⟨by decide, by decide⟩ | exact ⟨by decide, by decide, by decide⟩ | exact ⟨by decide, by decide +kernel⟩)
local macro_rules | `(tactic| walk_at "ty") => `(tactic| first
  | exact TyX.base TyOf.non
  | exact TyX.base (TyOf.bl _)
  | exact TyX.base (TyOf.int _)
  | exact TyX.base (TyOf.str _)
  | ((refine' tyT ?h1); (case h1 => walk_at "sq"))
  | ((refine' tyL ?h1); (case h1 => walk_at "sq")))
local macro_rules | `(tactic| walk_at "st") => `(tactic| first
  | with_reducible refine' r_seq ?_
  | with_reducible refine' r_asg ?_
  | with_reducible refine' r_ret ?_
  | with_reducible refine' r_drop ?_
  | with_reducible refine' r_ifS ?_
  | with_reducible refine' r_par ?_
  | with_reducible refine' r_name ?_
  | with_reducible refine' r_gCons ?_
  | with_reducible refine' r_gNil ?_
  | with_reducible refine' r_gSub ?_
  | ((with_reducible refine' r_gTup ?h1 ?h2 ?h3); (case h1 => walk_at "sq"); (case h2 => rfl))
  | with_reducible refine' r_op ?_
  | with_reducible refine' r_un ?_
  | with_reducible refine' r_c ?_
  | ((with_reducible refine' r_var ?h1 ?h2); (case h1 => rfl))
  | with_reducible refine' r_I0 ?_
  | with_reducible refine' r_U ?_
  | ((with_reducible refine' r_I ?h1 ?h2); (case h1 => walk_at "side"))
  | ((with_reducible refine' r_ixT ?h1 ?h2 ?h3); (case h1 => walk_at "sq"); (case h2 => rfl))
  | ((with_reducible refine' r_ixL ?h1 ?h2 ?h3); (case h1 => walk_at "sq"); (case h2 => rfl))
  | with_reducible refine' r_cons ?_
  | with_reducible refine' r_nil ?_
  | with_reducible refine' r_tup ?_
  | with_reducible refine' r_lst ?_
  | with_reducible refine' r_CB ?_
  | with_reducible refine' r_R ?_
  | with_reducible refine' r_R1 ?_
  | with_reducible refine' r_star ?_
  | with_reducible refine' r_RS ?_
  | with_reducible refine' r_gcd ?_
  | ((with_reducible refine' r_aug ?h1 ?h2); (case h1 => rfl))
  | with_reducible refine' r_ipI ?_
  | ((with_reducible refine' r_app ?h1 ?h2 ?h3); (case h1 => assumption); (case h2 => first | assumption | omega))
  | with_reducible refine' r_test ?_
  | with_reducible refine' r_B ?_
  | with_reducible refine' r_bl ?_
  | with_reducible refine' r_if ?_
  | with_reducible refine' r_and ?_
  | with_reducible refine' r_or ?_
  | with_reducible refine' r_not ?_
  | with_reducible refine' r_next ?_
  | with_reducible refine' r_int ?_
  | with_reducible refine' r_exI ?_
  | with_reducible refine' r_andV ?_
  | with_reducible refine' r_orV ?_
  | with_reducible refine' r_notV ?_
  | ((with_reducible refine' r_isi ?h1 ?h2 ?h3); (case h1 => walk_at "ty"); (case h2 => rfl))
  | ((with_reducible refine' r_isiT ?h1 ?h2 ?h3 ?h4); (case h1 => exact upd_same); (case h2 => walk_at "ty"); (case h3 => rfl))
  | with_reducible refine' And.intro (rfl : V.non = V.non) ?_
  | with_reducible refine' r_BM ?_
  | with_reducible refine' r_BM0 ?_
  | with_reducible refine' r_lc ?_
  | with_reducible refine' r_yes ?_
  | with_reducible refine' r_tt ?_
  | with_reducible refine' r_iRng1 ?_
  | with_reducible refine' r_iList ?_
  | with_reducible refine' r_iTup ?_
  | with_reducible refine' r_iZip ?_
  | ((with_reducible refine' r_gUnl ?h1 ?h2 ?h3); (case h1 => walk_at "sq"); (case h2 => rfl))
  | with_reducible refine' r_slL ?_
  | with_reducible refine' r_noP ?_
  | with_reducible refine' r_part ?_
  | ((with_reducible refine' r_len ?h1 ?h2); (case h1 => (first | (refine Or.inl ?_; walk_at "sq") | (refine Or.inr ?_; walk_at "sq"))))
  | ((with_reducible refine' r_eq ?h1 ?h2); (case h1 => rfl))
  | ((with_reducible refine' r_ne ?h1 ?h2); (case h1 => rfl))
  | ((with_reducible refine' And.intro ?h1 ?h2); (case h1 => (simp only [List.length_cons, List.length_nil, List.length_map]; decide)); (intro np hnp))
  | ((with_reducible refine' Exists.intro _ (Exists.intro _ (And.intro ?h1 ?h2))); (case h1 => (show ([_, _] : List V) = [_, _]; rfl))))
local macro_rules | `(tactic| walk_at "go") => `(tactic| repeat walk_at "st")
local macro_rules | `(tactic| walk_at "bag") => `(tactic| first
  | assumption
  | (refine BagAt.new ?_ (by assumption); walk_at "bag")
  | (refine BagAt.x0 ?_ (by assumption); walk_at "bag"))
local macro_rules | `(tactic| walk_at "ext") => `(tactic| first
  | assumption
  | exact Ext.refl
  | (refine Ext.new ?_ (by assumption); walk_at "ext")
  | (refine Ext.trans ?_ (by assumption); walk_at "ext"))
local macro_rules | `(tactic| walk_at "ams") => `(tactic| first
  | exact Ams.nil
  | (refine Ams.cons ?_ ?_; (first | assumption | (refine am_lit _ _ ?_; walk_at "sq")); walk_at "ams"))
local macro_rules | `(tactic| walk_at "br") => `(tactic| first
  | ((with_reducible refine' r_true ?h1 ?h2); (case h1 => rfl))
  | ((with_reducible refine' r_false ?h1 ?h2); (case h1 => rfl)))
local macro_rules | `(tactic| walk_at "run") => `(tactic| repeat (first | walk_at "st" | walk_at "br"))
local macro_rules | `(tactic| walk_at "am") => `(tactic| first
  | assumption
  | (refine Am.x0 (by assumption) ?_; walk_at "am")
  | (refine Am.n ?_ (by assumption); walk_at "am")
  | (refine Am.b' (by assumption) (by assumption) ?_; walk_at "am"))
set_option maxHeartbeats 1000000
/-! Texts of numbers. -/
namespace Yk
open PySem PySem.Spec PyProof.Rows L2 TL
/-- the text of a number -/
def nt (n : Nat) : Str := Str.ofString (toString ((n : Nat) : Int))
theorem tl_nt (n : Nat) : tl (nt n) = numL n := tl_num n
theorem cps_nt (n : Nat) : (nt n).cps.toList = numL n := tl_nt n
theorem str_eq {a b : Str} (h : tl a = tl b) : a = b := Str.ext' (Array.toList_inj.mp h)
theorem len_nt (n : Nat) : (nt n).length = (numL n).length := by rw [← tl_nt]; exact (Array.length_toList).symm
theorem numL_le {n k : Nat} (hk : 0 < k) (h : n < 10 ^ k) : (numL n).length ≤ k := by
  unfold numL
  rw [List.length_map]
  exact (Nat.length_toDigits_le_iff (by decide) hk).mpr h
theorem numL_ne (n : Nat) : numL n ≠ [] := by
  unfold numL
  intro e
  have h := List.map_eq_nil_iff.mp e
  have h2 : 0 < (Nat.toDigits 10 n).length := by
    by_cases hn : n < 10
    · rw [Nat.toDigits_of_lt_base hn]; simp
    · rw [Nat.toDigits_of_base_le (by decide) (by omega)]; simp
  rw [h] at h2
  exact absurd h2 (by decide)
theorem numL_snoc {n d : Nat} (hn : 0 < n) (hd : d < 10) : numL (n * 10 + d) = numL n ++ numL d := by
  unfold numL
  rw [← List.map_append, Nat.toDigits_append_toDigits (by decide) hn hd, Nat.mul_comm]
theorem numL_digit {d : Nat} (hd : d < 10) : numL d = [48 + d] := numL_lt hd
/-- filled up with noughts -/
def padL (k n : Nat) : List Nat := List.replicate (k - (numL n).length) 48 ++ numL n
theorem numL_split : ∀ (k : Nat) (q r : Nat), 0 < q → r < 10 ^ (k + 1) → numL (q * 10 ^ (k + 1) + r) = numL q ++ padL (k + 1) r
  | 0, q, r, hq, hr => by
    have hr' : r < 10 := by simpa using hr
    unfold padL
    rw [numL_digit hr', show 10 ^ (0 + 1) = 10 from rfl, numL_snoc hq hr', numL_digit hr']
    rfl
  | k + 1, q, r, hq, hr => by
    have h1 : r / 10 < 10 ^ (k + 1) := Nat.div_lt_of_lt_mul (by rw [Nat.pow_succ] at hr; omega)
    have hd : r % 10 < 10 := Nat.mod_lt _ (by decide)
    have e : q * 10 ^ (k + 1 + 1) + r = (q * 10 ^ (k + 1) + r / 10) * 10 + r % 10 := by
      rw [Nat.pow_succ 10 (k + 1), ← Nat.mul_assoc, Nat.add_mul, Nat.add_assoc, Nat.div_add_mod' r 10]
    have hp : 0 < q * 10 ^ (k + 1) + r / 10 := by
      have : 0 < q * 10 ^ (k + 1) := Nat.mul_pos hq (Nat.pow_pos (by decide))
      omega
    rw [e, numL_snoc hp hd, numL_split k q (r / 10) hq h1, List.append_assoc]
    congr 1
    unfold padL
    by_cases hz : r / 10 = 0
    · have er : r = r % 10 := by omega
      rw [hz, numL_digit (show 0 < 10 by decide), numL_digit hd]
      have e2 : numL r = [48 + r % 10] := by rw [er]; simpa using numL_digit hd
      rw [e2]
      have h3 : List.replicate (k + 1 - [48 + 0].length) 48 ++ [48 + 0] = List.replicate (k + 1) 48 := by
        show List.replicate (k + 1 - 1) 48 ++ [48] = _
        rw [show k + 1 - 1 = k by omega, ← List.replicate_succ']
      rw [h3]
      show List.replicate (k + 1) 48 ++ _ = List.replicate (k + 1 + 1 - 1) 48 ++ _
      rw [show k + 1 + 1 - 1 = k + 1 by omega]
    · have e2 : numL r = numL (r / 10) ++ numL (r % 10) := by
        rw [← numL_snoc (by omega) hd, Nat.div_add_mod' r 10]
      rw [e2, List.length_append, numL_digit hd, List.append_assoc]
      rw [show k + 1 + 1 - ((numL (r / 10)).length + [48 + r % 10].length) = k + 1 - (numL (r / 10)).length by show k + 1 + 1 - (_ + 1) = _; omega]
theorem numL_range {n c : Nat} (h : c ∈ numL n) : 48 ≤ c ∧ c ≤ 57 := by
  unfold numL at h
  obtain ⟨ch, hch, e⟩ := List.mem_map.mp h
  have r := digit_range (Nat.isDigit_of_mem_toDigits (by decide) (by decide) hch)
  rw [← e]
  exact r
theorem zfill_tl {n k : Nat} (h : (numL n).length ≤ k) : tl (Txt.zfill (nt n) (k : Int)) = padL k n := by
  unfold Txt.zfill
  rw [len_nt]
  split
  · rename_i hk
    have e : (numL n).length = k := by omega
    unfold padL
    rw [e, Nat.sub_self, tl_nt]
    rfl
  · unfold zfilled
    have hc : ∀ c, (nt n).cps[0]? = some c → c ≠ 43 ∧ c ≠ 45 := by
      intro c hc
      have h1 : c ∈ numL n := by
        rw [← tl_nt]
        rw [← Array.getElem?_toList] at hc
        exact List.mem_of_getElem? hc
      have := numL_range h1
      omega
    have hp : tl (Builtin.Str.padded (nt n) (Int.toNat (k : Int) - (numL n).length) 0 48) = padL k n := by
      unfold Builtin.Str.padded padL
      show (Array.replicate (k - (numL n).length) 48 ++ (nt n).cps ++ Array.replicate 0 48).toList = _
      rw [Array.toList_append, Array.toList_append, cps_nt]
      simp
    split
    · rename_i e
      exact absurd rfl (hc _ e).1
    · rename_i e
      exact absurd rfl (hc _ e).2
    · exact hp
theorem read_nt {n : Nat} (h : (nt n).length ≤ 4300) : PySem.intText? (nt n) = some (n : Int) := by
  have hd : PySem.NumText.AllDigits (nt n).cps.toList := by
    intro c hc
    rw [cps_nt] at hc
    exact numL_range hc
  have hne : (nt n).cps.toList ≠ [] := by
    rw [cps_nt]
    exact numL_ne n
  have e := PySem.intText_digits hd hne h
  rw [cps_nt] at e
  rw [e]
  unfold numL
  rw [PySem.W.KIN.val_back]
theorem ascii_nt (n : Nat) : Txt.isascii (nt n) = true := by
  unfold Txt.isascii
  rw [← Array.all_toList, List.all_eq_true]
  intro c hc
  rw [cps_nt] at hc
  have := numL_range hc
  exact decide_eq_true (by omega)
theorem uni_digit : ∀ d : Nat, d < 10 → Unicode.isDigit (48 + d) = true := by decide +kernel
theorem digit_nt (n : Nat) : Txt.isdigit (nt n) = true := by
  unfold Txt.isdigit
  rw [Bool.and_eq_true]
  refine ⟨decide_eq_true ?_, ?_⟩
  · rw [len_nt]
    exact List.length_pos_iff.mpr (numL_ne n)
  · rw [← Array.all_toList, List.all_eq_true]
    intro c hc
    rw [cps_nt] at hc
    have h := numL_range hc
    have := uni_digit (c - 48) (by omega)
    rw [show 48 + (c - 48) = c by omega] at this
    exact this
theorem numL_head : ∀ n : Nat, 0 < n → ∃ c r, numL n = c :: r ∧ c ≠ 48 := by
  intro n
  induction n using Nat.strongRecOn with
  | _ n ih =>
    intro hn
    by_cases h : n < 10
    · exact ⟨48 + n, [], numL_digit h, by omega⟩
    · obtain ⟨c, r, e, hc⟩ := ih (n / 10) (by omega) (by omega)
      refine ⟨c, r ++ numL (n % 10), ?_, hc⟩
      have h2 := numL_snoc (n := n / 10) (d := n % 10) (by omega) (Nat.mod_lt _ (by decide))
      rw [show n / 10 * 10 + n % 10 = n by omega, e] at h2
      exact h2
theorem nt_zero : nt 0 = Str.ofString "0" := by decide +kernel
theorem starts_nt {n : Nat} (hn : 0 < n) : Txt.startswith (nt n) (Str.ofString "0") = false := by
  unfold Txt.startswith
  obtain ⟨c, r, e, hc⟩ := numL_head n hn
  rw [Bool.and_eq_false_iff]
  right
  unfold Builtin.Str.subAt
  rw [show (Str.ofString "0") = ⟨#[48]⟩ by decide +kernel]
  rw [beq_eq_false_iff_ne]
  intro z
  have z2 := congrArg Array.toList z
  rw [Array.toList_extract] at z2
  rw [cps_nt, e] at z2
  simp at z2
  have z3 : List.take 1 (c :: r) = [48] := z2
  simp at z3
  exact hc z3
/-- the text of an amount -/
def amTxt (q : Rat) : Str := if q.den = 1 then nt q.num.toNat else nt q.num.toNat ++ Str.ofString "/" ++ nt q.den
theorem slash_nt (n : Nat) : 47 ∉ tl (nt n) := fun h => by rw [tl_nt] at h; have := numL_range h; omega
theorem slash : Str.ofString "/" = ⟨#[47]⟩ := by decide +kernel
theorem part_nt (n : Nat) : Txt.partition (nt n) (Str.ofString "/") = (nt n, Str.empty, Str.empty) := partition_none (y := Str.ofString "/") (s := 47) (S := []) (by rw [slash]) (slash_nt n)
theorem part_am (n d : Nat) : Txt.partition (nt n ++ Str.ofString "/" ++ nt d) (Str.ofString "/") = (nt n, Str.ofString "/", nt d) := partition_app (y := Str.ofString "/") (s := 47) (S := []) (by rw [slash]) (slash_nt n)
theorem joinL_nil : ∀ l : List (List Nat), joinL [] l = l.flatten
  | [] => rfl
  | [p] => by simp [joinL]
  | p :: q :: r => by
    show p ++ ([] ++ joinL [] (q :: r)) = _
    rw [joinL_nil (q :: r)]
    simp
theorem tl_join0 (parts : List Str) : tl (Txt.join Str.empty parts) = (parts.map tl).flatten := by
  rw [join_eq, tl_join]
  exact joinL_nil _
theorem len_sum : ∀ parts : List Str, (parts.map (·.length)).sum = (parts.map tl).flatten.length
  | [] => rfl
  | p :: r => by
    show p.length + (r.map (·.length)).sum = (tl p ++ (r.map tl).flatten).length
    rw [List.length_append, len_sum r]
    congr 1
theorem bits_lt {n b : Nat} (h : n < 2 ^ b) : n < 10 ^ b := Nat.lt_of_lt_of_le h (Nat.pow_le_pow_left (by decide) b)
theorem log_lt {n b : Nat} (hb : 0 < b) (h : n < 2 ^ b) : n.log2 < b := PySem.Flt.log2_lt_of hb h
end Yk

set_option maxHeartbeats 1000000
namespace Yk
open PySem PySem.Spec PyProof.Rows L2

section
variable {P : Program} {w : World} {K : PySem.W.Frag} {mg : Str → Option Value} {base : Heap} {f : Addr} {fd : FuncData}
abbrev s_added : Stmt := top 10
theorem c_added : FnScope ["first", "second", "top", "bottom", "other_top", "other_bottom", "common", "rest", "new_top", "shared"] ["first", "second"] (defScope s_added) := ⟨rfl, rfl, rfl, by decide +kernel, rfl, by decide +kernel, by decide +kernel⟩
theorem f_added (F : FunD K "_added" "_added" (defArgs s_added) (defBody s_added) (defScope s_added) [] [] f fd) (hm : mg "_added" = some (.ref f)) (T : Bg mg) : Fn P w K mg base 1 "_added" (spAdded K) := by
  refine fn_def F hm c_added (fun vs H Q E h => ?_) (fun _ _ _ _ _ _ us hl => match us, hl with | [_, _], _ => rfl) (fun cdv A outer s H vs Q E hr h => ?_)
  · obtain ⟨v1, v2, p, q, rfl, _⟩ := h
    rfl
  · obtain ⟨v1, v2, p, q, rfl, ⟨a1, rfl, h1⟩, ⟨a2, rfl, h2⟩, z1, z2, k⟩ := h
    have nd := c_added.nd
    refine ⟨_, (pss_cons (ps_asg (pv 0) (pg_tup rfl (pgs_cons (pg_name (i := 2) nd rfl (by first | exact Or.inl rfl | exact Or.inr rfl)) (pgs_cons (pg_name (i := 3) nd rfl (by first | exact Or.inl rfl | exact Or.inr rfl)) pgs_nil))))
      (pss_cons (ps_asg (pv 1) (pg_tup rfl (pgs_cons (pg_name (i := 4) nd rfl (by first | exact Or.inl rfl | exact Or.inr rfl)) (pgs_cons (pg_name (i := 5) nd rfl (by first | exact Or.inl rfl | exact Or.inr rfl)) pgs_nil))))
      (pss_cons (ps_set (i := 6) nd rfl (by first | exact Or.inl rfl | exact Or.inr rfl) (pe_callBfun cr_gcd (by rfl) T.gcd (pa_cons (pv 3) (pa_cons (pv 5) pa_nil))))
      (pss_cons (ps_set (i := 7) nd rfl (by first | exact Or.inl rfl | exact Or.inr rfl) (pe_op op_fdivW (pv 3) (pv 6)))
      (pss_cons (ps_set (i := 8) nd rfl (by first | exact Or.inl rfl | exact Or.inr rfl) (pe_op op_add (pe_op op_mulW (pv 2) (pe_op op_fdivW (pv 5) (pv 6))) (pe_op op_mulW (pv 4) (pv 7))))
      (pss_cons (ps_set (i := 9) nd rfl (by first | exact Or.inl rfl | exact Or.inr rfl) (pe_callBfun cr_gcd (by rfl) T.gcd (pa_cons (pv 8) (pa_cons (pv 6) pa_nil))))
      (pss_one (ps_ret (pe_tup (pa_cons (pe_op op_fdivW (pv 8) (pv 9)) (pa_cons (pe_op op_mulW (pv 7) (pe_op op_fdivW (pv 5) (pv 9))) pa_nil))))))))))), ?_⟩
    show (_ : TS) _ [some _, some _, none, none, none, none, none, none, none, none] _
    try dsimp only [cxOf, Cx.nox]
    have g0 : 0 < Nat.gcd p.den q.den := Nat.gcd_pos_of_pos_left _ p.den_pos
    have gl : Nat.gcd p.den q.den < 2 ^ 4000 := Nat.lt_of_le_of_lt (Nat.gcd_le_left _ p.den_pos) z1.2
    have e1 : (p.den : Int).natAbs < 2 ^ 4000 := z1.2
    have e2 : (q.den : Int).natAbs < 2 ^ 4000 := z2.2
    have d1 : ∀ i : Int, CDivW i ((Nat.gcd p.den q.den : Nat) : Int) := fun i => cdiv g0 gl (by decide) (by decide)
    have m1 : CMulW p.num ((q.den : Int) / ((Nat.gcd p.den q.den : Nat) : Int)) := cmul z1.1 (dlt e2) (by decide) (by decide) (by decide)
    have m2 : CMulW q.num ((p.den : Int) / ((Nat.gcd p.den q.den : Nat) : Int)) := cmul z2.1 (dlt e1) (by decide) (by decide) (by decide)
    have s0 : ∀ n : Nat, 0 < Nat.gcd n (Nat.gcd p.den q.den) := fun n => Nat.gcd_pos_of_pos_right _ g0
    have sl : ∀ n : Nat, Nat.gcd n (Nat.gcd p.den q.den) < 2 ^ 4000 := fun n => Nat.lt_of_le_of_lt (Nat.gcd_le_right _ g0) gl
    have d2 : ∀ (i : Int) (n : Nat), CDivW i ((Nat.gcd n (Nat.gcd p.den q.den) : Nat) : Int) := fun i n => cdiv (s0 n) (sl n) (by decide) (by decide)
    have m3 : ∀ n : Nat, CMulW ((p.den : Int) / ((Nat.gcd p.den q.den : Nat) : Int)) ((q.den : Int) / ((Nat.gcd n (Nat.gcd p.den q.den) : Nat) : Int)) := fun n => cmul (dlt e1) (dlt e2) (by decide) (by decide) (by decide)
    walk_at "go"
    refine r_I (d1 _) ?_
    walk_at "go"
    refine r_I (d1 _) ?_
    walk_at "go"
    refine r_I (d2 _ _) ?_
    walk_at "go"
    refine r_I (d2 _ _) ?_
    walk_at "go"
    refine r_I (m3 _) ?_
    walk_at "go"
    refine k _ _ (Ext.refl.new (by assumption)) ⟨_, rfl, ?_⟩
    obtain ⟨x1, x2⟩ := add_int p q
    rw [x1, x2]
    exact tupS
end
end Yk

set_option maxHeartbeats 1000000
namespace Yk
open PySem PySem.Spec PyProof.Rows L2

section
variable {P : Program} {w : World} {K : PySem.W.Frag} {mg : Str → Option Value} {base : Heap} {f : Addr} {fd : FuncData}
def spProd (K : PySem.W.Frag) : Sp := fun vs H Q _ => ∃ p q : Rat, vs = [.int p.num, .int (p.den : Int), .int q.num, .int (q.den : Int)] ∧ Sz 4000 p ∧ Sz 4000 q ∧ RetAm K H Q (p * q)
abbrev s_product : Stmt := top 13
theorem c_product : FnScope ["top", "bottom", "other_top", "other_bottom", "left", "right"] ["top", "bottom", "other_top", "other_bottom"] (defScope s_product) := ⟨rfl, rfl, rfl, by decide +kernel, rfl, by decide +kernel, by decide +kernel⟩
theorem f_product (F : FunD K "_product" "_product" (defArgs s_product) (defBody s_product) (defScope s_product) [] [] f fd) (hm : mg "_product" = some (.ref f)) (T : Bg mg) : Fn P w K mg base 1 "_product" (spProd K) := by
  refine fn_def F hm c_product (fun vs H Q E h => ?_) (fun _ _ _ _ _ _ us hl => match us, hl with | [_, _, _, _], _ => rfl) (fun cdv A outer s H vs Q E hr h => ?_)
  · obtain ⟨p, q, rfl, _⟩ := h
    rfl
  · obtain ⟨p, q, rfl, z1, z2, k⟩ := h
    have nd := c_product.nd
    refine ⟨_, (pss_cons (ps_set (i := 4) nd rfl (by first | exact Or.inl rfl | exact Or.inr rfl) (pe_callBfun cr_gcd (by rfl) T.gcd (pa_cons (pv 0) (pa_cons (pv 3) pa_nil))))
      (pss_cons (ps_set (i := 5) nd rfl (by first | exact Or.inl rfl | exact Or.inr rfl) (pe_callBfun cr_gcd (by rfl) T.gcd (pa_cons (pv 2) (pa_cons (pv 1) pa_nil))))
      (pss_one (ps_ret (pe_tup (pa_cons (pe_op op_mulW (pe_op op_fdivW (pv 0) (pv 4)) (pe_op op_fdivW (pv 2) (pv 5))) (pa_cons (pe_op op_mulW (pe_op op_fdivW (pv 1) (pv 5)) (pe_op op_fdivW (pv 3) (pv 4))) pa_nil))))))), ?_⟩
    show (_ : TS) _ [some _, some _, some _, some _, none, none] _
    try dsimp only [cxOf, Cx.nox]
    have g1 : 0 < Nat.gcd p.num.natAbs q.den := Nat.gcd_pos_of_pos_right _ q.den_pos
    have g2 : 0 < Nat.gcd q.num.natAbs p.den := Nat.gcd_pos_of_pos_right _ p.den_pos
    have l1 : Nat.gcd p.num.natAbs q.den < 2 ^ 4000 := Nat.lt_of_le_of_lt (Nat.gcd_le_right _ q.den_pos) z2.2
    have l2 : Nat.gcd q.num.natAbs p.den < 2 ^ 4000 := Nat.lt_of_le_of_lt (Nat.gcd_le_right _ p.den_pos) z1.2
    have e1 : (p.den : Int).natAbs < 2 ^ 4000 := z1.2
    have e2 : (q.den : Int).natAbs < 2 ^ 4000 := z2.2
    have d1 : ∀ i : Int, CDivW i ((Nat.gcd p.num.natAbs q.den : Nat) : Int) := fun i => cdiv g1 l1 (by decide) (by decide)
    have d2 : ∀ i : Int, CDivW i ((Nat.gcd q.num.natAbs p.den : Nat) : Int) := fun i => cdiv g2 l2 (by decide) (by decide)
    have m1 : CMulW (p.num / ((Nat.gcd p.num.natAbs q.den : Nat) : Int)) (q.num / ((Nat.gcd q.num.natAbs p.den : Nat) : Int)) := cmul (dlt z1.1) (dlt z2.1) (by decide) (by decide) (by decide)
    have m2 : CMulW ((p.den : Int) / ((Nat.gcd q.num.natAbs p.den : Nat) : Int)) ((q.den : Int) / ((Nat.gcd p.num.natAbs q.den : Nat) : Int)) := cmul (dlt e1) (dlt e2) (by decide) (by decide) (by decide)
    walk_at "go"
    refine r_I (d1 _) ?_
    walk_at "go"
    refine r_I (d2 _) ?_
    walk_at "go"
    refine r_I (d2 _) ?_
    walk_at "go"
    refine r_I (d1 _) ?_
    walk_at "go"
    refine k _ _ (Ext.refl.new (by assumption)) ⟨_, rfl, ?_⟩
    obtain ⟨x1, x2⟩ := mul_int' p q
    rw [x1, x2]
    exact tupS
def spTimes (K : PySem.W.Frag) : Sp := fun vs H Q _ => ∃ v1 v2 p q, vs = [v1, v2] ∧ Am K H v1 p ∧ Am K H v2 q ∧ Sz 4000 p ∧ Sz 4000 q ∧ RetAm K H Q (p * q)
abbrev s_times : Stmt := top 11
theorem c_times : FnScope ["first", "second"] ["first", "second"] (defScope s_times) := ⟨rfl, rfl, rfl, by decide +kernel, rfl, by decide +kernel, by decide +kernel⟩
theorem f_times (F : FunD K "times" "times" (defArgs s_times) (defBody s_times) (defScope s_times) [] [] f fd) (hm : mg "times" = some (.ref f)) (F_product : Fn P w K mg base 1 "_product" (spProd K)) : Fn P w K mg base 2 "times" (spTimes K) := by
  refine fn_def F hm c_times (fun vs H Q E h => ?_) (fun _ _ _ _ _ _ us hl => match us, hl with | [_, _], _ => rfl) (fun cdv A outer s H vs Q E hr h => ?_)
  · obtain ⟨v1, v2, p, q, rfl, _⟩ := h
    rfl
  · obtain ⟨v1, v2, p, q, rfl, ⟨a1, rfl, h1⟩, ⟨a2, rfl, h2⟩, z1, z2, k⟩ := h
    have nd := c_times.nd
    refine ⟨_, (pss_one (ps_ret (pe_fn F_product (hr.mono (by decide)) (pa_cons (pe_ix ix_tup (pv 0) pe_int (fun _ _ => rfl)) (pa_cons (pe_ix ix_tup (pv 0) pe_int (fun _ _ => rfl)) (pa_cons (pe_ix ix_tup (pv 1) pe_int (fun _ _ => rfl)) (pa_cons (pe_ix ix_tup (pv 1) pe_int (fun _ _ => rfl)) pa_nil))))))), ?_⟩
    show (_ : TS) _ [some _, some _] _
    try dsimp only [cxOf, Cx.nox]
    walk_at "go"
    exact ⟨p, q, rfl, z1, z2, k⟩
def spOver (K : PySem.W.Frag) : Sp := fun vs H Q _ => ∃ v1 v2 p q, vs = [v1, v2] ∧ Am K H v1 p ∧ Am K H v2 q ∧ 0 < q ∧ Sz 4000 p ∧ Sz 4000 q ∧ RetAm K H Q (p / q)
def cmpQ (p q : Rat) : Int := if p < q then -1 else if q < p then 1 else 0
def spCompare (K : PySem.W.Frag) : Sp := fun vs H Q _ => ∃ v1 v2 p q, vs = [v1, v2] ∧ Am K H v1 p ∧ Am K H v2 q ∧ Sz 4000 p ∧ Sz 4000 q ∧ Q (.int (cmpQ p q)) H
abbrev s_compare : Stmt := top 14
theorem c_compare : FnScope ["first", "second", "left", "right"] ["first", "second"] (defScope s_compare) := ⟨rfl, rfl, rfl, by decide +kernel, rfl, by decide +kernel, by decide +kernel⟩
theorem f_compare (F : FunD K "compare" "compare" (defArgs s_compare) (defBody s_compare) (defScope s_compare) [] [] f fd) (hm : mg "compare" = some (.ref f))  : Fn P w K mg base 1 "compare" (spCompare K) := by
  refine fn_def F hm c_compare (fun vs H Q E h => ?_) (fun _ _ _ _ _ _ us hl => match us, hl with | [_, _], _ => rfl) (fun cdv A outer s H vs Q E hr h => ?_)
  · obtain ⟨v1, v2, p, q, rfl, _⟩ := h
    rfl
  · obtain ⟨v1, v2, p, q, rfl, ⟨a1, rfl, h1⟩, ⟨a2, rfl, h2⟩, z1, z2, k⟩ := h
    have nd := c_compare.nd
    refine ⟨_, (pss_cons (ps_set (i := 2) nd rfl (by first | exact Or.inl rfl | exact Or.inr rfl) (pe_op op_mulW (pe_ix ix_tup (pv 0) pe_int (fun _ _ => rfl)) (pe_ix ix_tup (pv 1) pe_int (fun _ _ => rfl))))
      (pss_cons (ps_set (i := 3) nd rfl (by first | exact Or.inl rfl | exact Or.inr rfl) (pe_op op_mulW (pe_ix ix_tup (pv 1) pe_int (fun _ _ => rfl)) (pe_ix ix_tup (pv 0) pe_int (fun _ _ => rfl))))
      (pss_cons (ps_if (pt_cmpR op_lt (pv 2) (pv 3) (nomark _))
        (pss_one (ps_ret (pe_un un_neg pe_int)))
        pss_nil)
      (pss_cons (ps_if (pt_cmpR op_gt (pv 2) (pv 3) (nomark _))
        (pss_one (ps_ret pe_int))
        pss_nil)
      (pss_one (ps_ret pe_int)))))), ?_⟩
    show (_ : TS) _ [some _, some _, none, none] _
    try dsimp only [cxOf, Cx.nox]
    have e1 : (p.den : Int).natAbs < 2 ^ 4000 := z1.2
    have e2 : (q.den : Int).natAbs < 2 ^ 4000 := z2.2
    have m1 : CMulW p.num (q.den : Int) := cmul z1.1 e2 (by decide) (by decide) (by decide)
    have m2 : CMulW q.num (p.den : Int) := cmul z2.1 e1 (by decide) (by decide) (by decide)
    walk_at "go"
    refine r_dec (fun hlt => ?_) (fun hlt => ?_)
    · walk_at "go"
      unfold cmpQ at k
      rw [if_pos ((Rat.lt_iff p q).mpr hlt)] at k
      exact k
    · walk_at "go"
      have n1 : ¬ p < q := fun z => hlt ((Rat.lt_iff p q).mp z)
      refine r_dec (fun hgt => ?_) (fun hgt => ?_)
      · walk_at "go"
        unfold cmpQ at k
        rw [if_neg n1, if_pos ((Rat.lt_iff q p).mpr hgt)] at k
        exact k
      · walk_at "go"
        have n2 : ¬ q < p := fun z => hgt ((Rat.lt_iff q p).mp z)
        unfold cmpQ at k
        rw [if_neg n1, if_neg n2] at k
        exact k
def spMinus (K : PySem.W.Frag) : Sp := fun vs H Q _ => ∃ v1 v2 p q, vs = [v1, v2] ∧ Am K H v1 p ∧ Am K H v2 q ∧ q ≤ p ∧ Sz 4000 p ∧ Sz 4000 q ∧ RetAm K H Q (p - q)
abbrev s_minus : Stmt := top 9
theorem c_minus : FnScope ["first", "second"] ["first", "second"] (defScope s_minus) := ⟨rfl, rfl, rfl, by decide +kernel, rfl, by decide +kernel, by decide +kernel⟩
theorem f_minus (F : FunD K "minus" "minus" (defArgs s_minus) (defBody s_minus) (defScope s_minus) [] [] f fd) (hm : mg "minus" = some (.ref f)) (Fcompare : Fn P w K mg base 1 "compare" (spCompare K)) (F_added : Fn P w K mg base 1 "_added" (spAdded K)) : Fn P w K mg base 2 "minus" (spMinus K) := by
  refine fn_def F hm c_minus (fun vs H Q E h => ?_) (fun _ _ _ _ _ _ us hl => match us, hl with | [_, _], _ => rfl) (fun cdv A outer s H vs Q E hr h => ?_)
  · obtain ⟨v1, v2, p, q, rfl, _⟩ := h
    rfl
  · obtain ⟨v1, v2, p, q, rfl, ⟨a1, rfl, h1⟩, ⟨a2, rfl, h2⟩, hle, z1, z2, k⟩ := h
    have nd := c_minus.nd
    refine ⟨_, (pss_cons (ps_if (pt_cmpR op_lt (pe_fn Fcompare (hr.mono (by decide)) (pa_cons (pv 0) (pa_cons (pv 1) pa_nil))) pe_int (nomark _))
        (pss_one ps_never)
        pss_nil)
      (pss_one (ps_ret (pe_fn F_added (hr.mono (by decide)) (pa_cons (pv 0) (pa_cons (pe_tup (pa_cons (pe_un un_neg (pe_ix ix_tup (pv 1) pe_int (fun _ _ => rfl))) (pa_cons (pe_ix ix_tup (pv 1) pe_int (fun _ _ => rfl)) pa_nil))) pa_nil)))))), ?_⟩
    show (_ : TS) _ [some _, some _] _
    try dsimp only [cxOf, Cx.nox]
    walk_at "go"
    refine ⟨_, _, p, q, rfl, ⟨_, rfl, h1⟩, ⟨_, rfl, h2⟩, z1, z2, ?_⟩
    walk_at "go"
    have n1 : ¬ cmpQ p q < 0 := by
      unfold cmpQ
      rw [if_neg (Rat.not_lt.mpr hle)]
      split <;> omega
    refine r_dec (fun hlt => absurd hlt n1) (fun _ => ?_)
    walk_at "go"
    refine ⟨_, _, p, -q, rfl, ⟨_, rfl, tupN h1 (by assumption)⟩, ⟨_, rfl, ?_⟩, z1, sz_neg z2, fun v H' e a => ?_⟩
    · rw [Rat.neg_num]
      exact tupS
    · refine k v H' ((Ext.refl.new (by assumption)).trans e) ?_
      rw [Rat.sub_eq_add_neg]
      exact a
abbrev s_over : Stmt := top 12
theorem c_over : FnScope ["first", "second"] ["first", "second"] (defScope s_over) := ⟨rfl, rfl, rfl, by decide +kernel, rfl, by decide +kernel, by decide +kernel⟩
theorem f_over (F : FunD K "over" "over" (defArgs s_over) (defBody s_over) (defScope s_over) [] [] f fd) (hm : mg "over" = some (.ref f)) (TZ : ∃ z, mg "ZERO" = some (.ref z) ∧ ∀ H, SqT K H z [.int 0, .int 1]) (F_product : Fn P w K mg base 1 "_product" (spProd K)) : Fn P w K mg base 2 "over" (spOver K) := by
  refine fn_def F hm c_over (fun vs H Q E h => ?_) (fun _ _ _ _ _ _ us hl => match us, hl with | [_, _], _ => rfl) (fun cdv A outer s H vs Q E hr h => ?_)
  · obtain ⟨v1, v2, p, q, rfl, _⟩ := h
    rfl
  · obtain ⟨v1, v2, p, q, rfl, ⟨a1, rfl, h1⟩, ⟨a2, rfl, h2⟩, hq, z1, z2, k⟩ := h
    have nd := c_over.nd
    obtain ⟨z, mz, TZ⟩ := TZ
    refine ⟨_, (pss_cons (ps_if (pt_cmpR (op_eqD hr.units) (pv 1) (pe_glob (v := .ref z) rfl mz rfl) (nomark _))
        (pss_one ps_never)
        pss_nil)
      (pss_one (ps_ret (pe_fn F_product (hr.mono (by decide)) (pa_cons (pe_ix ix_tup (pv 0) pe_int (fun _ _ => rfl)) (pa_cons (pe_ix ix_tup (pv 0) pe_int (fun _ _ => rfl)) (pa_cons (pe_ix ix_tup (pv 1) pe_int (fun _ _ => rfl)) (pa_cons (pe_ix ix_tup (pv 1) pe_int (fun _ _ => rfl)) pa_nil)))))))), ?_⟩
    show (_ : TS) _ [some _, some _] _
    try dsimp only [cxOf, Cx.nox]
    walk_at "go"
    refine ⟨_, _, .tup (h2) (.cons (.int _) (.cons (.int _) .nil)), .tup (TZ _) (.cons (.int _) (.cons (.int _) .nil)), rfl, rfl, ?_⟩
    walk_at "go"
    obtain ⟨i1, i2⟩ := inv_parts hq
    have hn : ¬ q.num = 0 := by have := num_pos' hq; omega
    have en : PyData.eqv (PyData.tuple [PyData.int q.num, PyData.int ↑q.den]) (PyData.tuple [PyData.int 0, PyData.int 1]) = false := by
      simp [PyData.eqv, PyData.eqvAll, hn]
    rw [en]
    refine iteF ?_
    walk_at "go"
    refine ⟨p, q⁻¹, ?_, z1, sz_inv z2 hq, fun v H' e a => k v H' e ?_⟩
    · rw [i1, i2]
    · rw [Rat.div_def]
      exact a
/-- the sum of a row, from the left -/
def sumQ (qs : List Rat) : Rat := qs.foldl (· + ·) 0
theorem sumQ_take {qs : List Rat} {i : Nat} {q : Rat} (h : qs[i]? = some q) : sumQ (qs.take (i + 1)) = sumQ (qs.take i) + q := by
  obtain ⟨hl, e⟩ := List.getElem?_eq_some_iff.mp h
  unfold sumQ
  rw [← List.take_append_getElem hl, List.foldl_append, e]
  rfl
theorem sumQ_sz {m : Nat} : ∀ {qs : List Rat} (i : Nat), (∀ q ∈ qs, Sz m q) → i ≤ qs.length → Sz (1 + i * (m + 1)) (sumQ (qs.take i))
  | qs, 0, _, _ => by
    rw [List.take_zero]
    refine ⟨Nat.two_pow_pos _, ?_⟩
    rw [Nat.zero_mul]
    decide
  | qs, i + 1, h, hi => by
    have hq : qs[i]? = some qs[i] := List.getElem?_eq_getElem hi
    rw [sumQ_take hq]
    have h1 := sumQ_sz i h (by omega)
    have h2 := h qs[i] (List.getElem_mem hi)
    refine (sz_add h1 h2).mono ?_
    rw [Nat.add_mul]
    omega
def spPlusT (K : PySem.W.Frag) : Sp := fun vs H Q _ => ∃ t xs qs m, vs = [V.ref t] ∧ SqT K H t xs ∧ Ams K H xs qs ∧ (∀ q ∈ qs, Sz m q) ∧ m ≤ 4000 ∧ 1 + qs.length * (m + 1) ≤ 4000 ∧ RetAm K H Q (sumQ qs)
def spPlus (K : PySem.W.Frag) : Sp := fun vs H Q _ => ∃ qs m, Ams K H vs qs ∧ (∀ q ∈ qs, Sz m q) ∧ m ≤ 4000 ∧ 1 + qs.length * (m + 1) ≤ 4000 ∧ RetAm K H Q (sumQ qs)
abbrev s_plus : Stmt := top 8
theorem c_plus : FnScope ["amounts", "found", "further"] ["amounts"] (defScope s_plus) := ⟨rfl, rfl, rfl, by decide +kernel, rfl, by decide +kernel, by decide +kernel⟩
theorem f_plus (F : FunD K "plus" "plus" (defArgs s_plus) (defBody s_plus) (defScope s_plus) [] [] f fd) (hm : mg "plus" = some (.ref f)) (TZ : ∃ z, mg "ZERO" = some (.ref z) ∧ ∀ H, SqT K H z [.int 0, .int 1]) (F_added : Fn P w K mg base 1 "_added" (spAdded K)) : Fn P w K mg base 2 "plus" (spPlus K) := by
  refine fn_star (ps := []) (pv := "amounts") (sp := spPlusT K) F hm c_plus (fun _ _ _ _ _ _ us rest hl => match us, rest, hl with | [], [], _ => rfl | [], _ :: _, _ => rfl) (fun cdv A outer s H vs Q E hr h => ?_) ?himp
  case himp =>
    exact fun vs H Q E ⟨qs, m, h1, h2, h3, h4, k⟩ => ⟨[], vs, rfl, rfl, Nat.le_trans (by rw [h1.1]; have := Nat.le_mul_of_pos_right qs.length (show 0 < m + 1 by omega); omega : vs.length ≤ 4000) (by decide), fun p hp => ⟨p, vs, qs, m, rfl, tupS, h1.x0 (Ext.refl.new hp), h2, h3, h4, fun v H' e a => k v H' ((Ext.refl.new hp).trans e) a⟩⟩
  · obtain ⟨t, xs, qs, m, rfl, ht, ha, hz, hm, hl, k⟩ := h
    have nd := c_plus.nd
    obtain ⟨z, mz, TZ⟩ := TZ
    refine ⟨_, (pss_cons (ps_set (i := 1) nd rfl (by first | exact Or.inl rfl | exact Or.inr rfl) (pe_glob (v := .ref z) rfl mz rfl))
      (pss_cons (ps_for PassesOwn.never rfl (pi_tup (pv 0)) (pg_name (i := 2) nd rfl (by first | exact Or.inl rfl | exact Or.inr rfl))
        (pss_one (ps_set (i := 1) nd rfl (by first | exact Or.inl rfl | exact Or.inr rfl) (pe_fn F_added (hr.mono (by decide)) (pa_cons (pv 1) (pa_cons (pv 2) pa_nil))))))
      (pss_one (ps_ret (pv 1))))), ?_⟩
    show (_ : TS) _ [some _, none, none] _
    try dsimp only [cxOf, Cx.nox]
    walk_at "go"
    refine r_forT rfl ht (fun i σ H1 => Ext [] H H1 ∧ ∃ fv u, σ = [some (.ref t), some fv, u] ∧ Am K H1 fv (sumQ (qs.take i))) ⟨Ext.refl, _, _, rfl, ⟨z, rfl, TZ _⟩⟩ (fun i σ H1 _ h => tup0 h.1 ht) ?_ ?_
    · rintro i x σ H1 hx ⟨e1, fv, u, rfl, hf⟩
      have hi : i < qs.length := by rw [← ha.1]; exact (List.getElem?_eq_some_iff.mp hx).1
      have hq : qs[i]? = some qs[i] := List.getElem?_eq_getElem hi
      have hb := sumQ_sz i hz (by omega)
      have hsz : 1 + i * (m + 1) ≤ 4000 := Nat.le_trans (by have := Nat.mul_le_mul_right (m + 1) (Nat.le_of_lt hi); omega) hl
      walk_at "go"
      refine ⟨_, _, _, qs[i], rfl, hf, (ha.2 i x _ hx hq).x0 e1, hb.mono hsz, (hz _ (List.getElem_mem hi)).mono hm, fun v H' e a => ?_⟩
      walk_at "go"
      refine ⟨e1.trans e, _, _, rfl, ?_⟩
      rw [sumQ_take hq]
      exact a
    · rintro σ H1 ⟨e1, fv, u, rfl, hf⟩
      walk_at "go"
      rw [ha.1, List.take_length] at hf
      exact k _ _ e1 hf
end
end Yk

set_option maxHeartbeats 1000000
namespace Yk
open PySem PySem.Spec PyProof.Rows L2

section
variable {P : Program} {w : World} {K : PySem.W.Frag} {mg : Str → Option Value} {base : Heap} {f : Addr} {fd : FuncData}
def spMinT (F : Rat → List Rat → Rat) (K : PySem.W.Frag) : Sp := fun vs H Q _ => ∃ v0 q0 t xs qs, vs = [v0, V.ref t] ∧ Am K H v0 q0 ∧ Sz 4000 q0 ∧ SqT K H t xs ∧ Ams K H xs qs ∧ (∀ q ∈ qs, Sz 4000 q) ∧ RetAm K H Q (F q0 qs)
def spMin (F : Rat → List Rat → Rat) (K : PySem.W.Frag) : Sp := fun vs H Q _ => ∃ q0 qs, Ams K H vs (q0 :: qs) ∧ (∀ q ∈ q0 :: qs, Sz 4000 q) ∧ qs.length ≤ 4000 ∧ RetAm K H Q (F q0 qs)
theorem spMin_imp {F : Rat → List Rat → Rat} : ∀ vs H Q E, spMin F K vs H Q E → ∃ ws rest, vs = ws ++ rest ∧ ws.length = (["first"] : List Str).length ∧ rest.length ≤ sizeLine ∧ ∀ p, H p = none → spMinT F K (ws ++ [V.ref p]) (upd H p (.tup rest)) Q E := by
  rintro vs H Q E ⟨q0, qs, h1, h2, h3, k⟩
  cases vs with
  | nil => exact absurd h1.1 (by simp)
  | cons v0 rest =>
    have hl : rest.length = qs.length := by simpa using h1.1
    have h4 : Ams K H rest qs := ⟨hl, fun i v q a b => h1.2 (i + 1) v q (by simpa using a) (by simpa using b)⟩
    refine ⟨[v0], rest, rfl, rfl, Nat.le_trans (by omega : rest.length ≤ 4000) (by decide), fun p hp => ⟨v0, q0, p, rest, qs, rfl, (h1.2 0 v0 q0 rfl rfl).x0 (Ext.refl.new hp), h2 q0 List.mem_cons_self, tupS, h4.x0 (Ext.refl.new hp), fun q hq => h2 q (List.mem_cons_of_mem _ hq), fun v H' e a => k v H' ((Ext.refl.new hp).trans e) a⟩⟩
theorem cmp_lt (p q : Rat) : cmpQ p q < 0 ↔ p < q := by
  unfold cmpQ
  by_cases h : p < q
  · rw [if_pos h]; exact ⟨fun _ => h, fun _ => by decide⟩
  · rw [if_neg h]
    refine ⟨fun z => ?_, fun z => absurd z h⟩
    split at z <;> omega
theorem cmp_gt (p q : Rat) : 0 < cmpQ p q ↔ q < p := by
  unfold cmpQ
  by_cases h : p < q
  · rw [if_pos h]
    exact ⟨fun z => by omega, fun z => absurd (Rat.le_of_lt h) (Rat.not_le.mpr z)⟩
  · rw [if_neg h]
    by_cases h2 : q < p
    · rw [if_pos h2]; exact ⟨fun _ => h2, fun _ => by decide⟩
    · rw [if_neg h2]; exact ⟨fun z => by omega, fun z => absurd z h2⟩
abbrev s_smallest : Stmt := top 15
theorem c_smallest : FnScope ["first", "others", "found", "other"] ["first", "others"] (defScope s_smallest) := ⟨rfl, rfl, rfl, by decide +kernel, rfl, by decide +kernel, by decide +kernel⟩
theorem f_smallest (F : FunD K "smallest" "smallest" (defArgs s_smallest) (defBody s_smallest) (defScope s_smallest) [] [] f fd) (hm : mg "smallest" = some (.ref f)) (Fcompare : Fn P w K mg base 1 "compare" (spCompare K)) : Fn P w K mg base 2 "smallest" (spMin minQ K) := by
  refine fn_star (ps := ["first"]) (pv := "others") (sp := spMinT minQ K) F hm c_smallest (fun _ _ _ _ _ _ us rest hl => match us, rest, hl with | [_], [], _ => rfl | [_], _ :: _, _ => rfl) (fun cdv A outer s H vs Q E hr h => ?_) ?himp
  case himp =>
    exact spMin_imp
  · obtain ⟨v0, q0, t, xs, qs, rfl, h0, z0, ht, ha, hz, k⟩ := h
    have nd := c_smallest.nd
    refine ⟨_, (pss_cons (ps_set (i := 2) nd rfl (by first | exact Or.inl rfl | exact Or.inr rfl) (pv 0))
      (pss_cons (ps_for PassesOwn.never rfl (pi_tup (pv 1)) (pg_name (i := 3) nd rfl (by first | exact Or.inl rfl | exact Or.inr rfl))
        (pss_one (ps_if (pt_cmpR op_lt (pe_fn Fcompare (hr.mono (by decide)) (pa_cons (pv 3) (pa_cons (pv 2) pa_nil))) pe_int (nomark _))
          (pss_one (ps_set (i := 2) nd rfl (by first | exact Or.inl rfl | exact Or.inr rfl) (pv 3)))
          pss_nil)))
      (pss_one (ps_ret (pv 2))))), ?_⟩
    show (_ : TS) _ [some _, some _, none, none] _
    try dsimp only [cxOf, Cx.nox]
    walk_at "go"
    refine r_forT rfl ht (fun i σ H1 => H1 = H ∧ ∃ fv u, σ = [some v0, some (.ref t), some fv, u] ∧ Am K H fv (minQ q0 (qs.take i))) ⟨rfl, _, _, rfl, h0⟩ (fun i σ H1 _ h => h.1 ▸ ht) ?_ ?_
    · rintro i x σ H1 hx ⟨rfl, fv, u, rfl, hf⟩
      obtain ⟨q, hq, hxq⟩ := ha.at_ hx
      have sf : Sz 4000 (minQ q0 (qs.take i)) := minQ_mem z0 fun y hy => hz y (List.mem_of_mem_take hy)
      walk_at "go"
      refine ⟨_, _, q, _, rfl, hxq, hf, hz q (List.mem_of_getElem? hq), sf, ?_⟩
      walk_at "go"
      refine r_dec (fun hlt => ?_) (fun hge => ?_)
      · walk_at "go"
        refine ⟨rfl, _, _, rfl, ?_⟩
        unfold minQ
        rw [fold_take hq]
        show Am K H1 x (if q < minQ q0 (qs.take i) then q else minQ q0 (qs.take i))
        rw [if_pos ((cmp_lt _ _).mp hlt)]
        exact hxq
      · walk_at "go"
        refine ⟨rfl, _, _, rfl, ?_⟩
        unfold minQ
        rw [fold_take hq]
        show Am K H1 fv (if q < minQ q0 (qs.take i) then q else minQ q0 (qs.take i))
        rw [if_neg fun z => hge ((cmp_lt _ _).mpr z)]
        exact hf
    · rintro σ H1 ⟨rfl, fv, u, rfl, hf⟩
      walk_at "go"
      rw [ha.1, List.take_length] at hf
      exact k _ _ Ext.refl hf
abbrev s_largest : Stmt := top 16
theorem c_largest : FnScope ["first", "others", "found", "other"] ["first", "others"] (defScope s_largest) := ⟨rfl, rfl, rfl, by decide +kernel, rfl, by decide +kernel, by decide +kernel⟩
theorem f_largest (F : FunD K "largest" "largest" (defArgs s_largest) (defBody s_largest) (defScope s_largest) [] [] f fd) (hm : mg "largest" = some (.ref f)) (Fcompare : Fn P w K mg base 1 "compare" (spCompare K)) : Fn P w K mg base 2 "largest" (spMin maxQ K) := by
  refine fn_star (ps := ["first"]) (pv := "others") (sp := spMinT maxQ K) F hm c_largest (fun _ _ _ _ _ _ us rest hl => match us, rest, hl with | [_], [], _ => rfl | [_], _ :: _, _ => rfl) (fun cdv A outer s H vs Q E hr h => ?_) ?himp
  case himp =>
    exact spMin_imp
  · obtain ⟨v0, q0, t, xs, qs, rfl, h0, z0, ht, ha, hz, k⟩ := h
    have nd := c_largest.nd
    refine ⟨_, (pss_cons (ps_set (i := 2) nd rfl (by first | exact Or.inl rfl | exact Or.inr rfl) (pv 0))
      (pss_cons (ps_for PassesOwn.never rfl (pi_tup (pv 1)) (pg_name (i := 3) nd rfl (by first | exact Or.inl rfl | exact Or.inr rfl))
        (pss_one (ps_if (pt_cmpR op_gt (pe_fn Fcompare (hr.mono (by decide)) (pa_cons (pv 3) (pa_cons (pv 2) pa_nil))) pe_int (nomark _))
          (pss_one (ps_set (i := 2) nd rfl (by first | exact Or.inl rfl | exact Or.inr rfl) (pv 3)))
          pss_nil)))
      (pss_one (ps_ret (pv 2))))), ?_⟩
    show (_ : TS) _ [some _, some _, none, none] _
    try dsimp only [cxOf, Cx.nox]
    walk_at "go"
    refine r_forT rfl ht (fun i σ H1 => H1 = H ∧ ∃ fv u, σ = [some v0, some (.ref t), some fv, u] ∧ Am K H fv (maxQ q0 (qs.take i))) ⟨rfl, _, _, rfl, h0⟩ (fun i σ H1 _ h => h.1 ▸ ht) ?_ ?_
    · rintro i x σ H1 hx ⟨rfl, fv, u, rfl, hf⟩
      obtain ⟨q, hq, hxq⟩ := ha.at_ hx
      have sf : Sz 4000 (maxQ q0 (qs.take i)) := maxQ_mem z0 fun y hy => hz y (List.mem_of_mem_take hy)
      walk_at "go"
      refine ⟨_, _, q, _, rfl, hxq, hf, hz q (List.mem_of_getElem? hq), sf, ?_⟩
      walk_at "go"
      refine r_dec (fun hlt => ?_) (fun hge => ?_)
      · walk_at "go"
        refine ⟨rfl, _, _, rfl, ?_⟩
        unfold maxQ
        rw [fold_take hq]
        show Am K H1 x (if maxQ q0 (qs.take i) < q then q else maxQ q0 (qs.take i))
        rw [if_pos ((cmp_gt _ _).mp hlt)]
        exact hxq
      · walk_at "go"
        refine ⟨rfl, _, _, rfl, ?_⟩
        unfold maxQ
        rw [fold_take hq]
        show Am K H1 fv (if maxQ q0 (qs.take i) < q then q else maxQ q0 (qs.take i))
        rw [if_neg fun z => hge ((cmp_gt _ _).mpr z)]
        exact hf
    · rintro σ H1 ⟨rfl, fv, u, rfl, hf⟩
      walk_at "go"
      rw [ha.1, List.take_length] at hf
      exact k _ _ Ext.refl hf
def spPair (K : PySem.W.Frag) : Sp := fun vs H Q _ => ∃ a b : Nat, vs = [.int (a : Int), .int (b : Int)] ∧ 0 < b ∧ a < 2 ^ 8900 ∧ b < 2 ^ 8900 ∧ RetAm K H Q (mkRat (a : Int) b)
abbrev s_law_pair : Stmt := top 34
theorem c_law_pair : FnScope ["_law_a", "_law_b", "_law_x", "_law_y"] ["_law_a", "_law_b"] (defScope s_law_pair) := ⟨rfl, rfl, rfl, by decide +kernel, rfl, by decide +kernel, by decide +kernel⟩
theorem f_law_pair (F : FunD K "_law_pair" "_law_pair" (defArgs s_law_pair) (defBody s_law_pair) (defScope s_law_pair) [] [] f fd) (hm : mg "_law_pair" = some (.ref f)) (T : Bt mg) : Fn P w K mg base 1 "_law_pair" (spPair K) := by
  refine fn_def F hm c_law_pair (fun vs H Q E h => ?_) (fun _ _ _ _ _ _ us hl => match us, hl with | [_, _], _ => rfl) (fun cdv A outer s H vs Q E hr h => ?_)
  · obtain ⟨a, b, rfl, _⟩ := h
    rfl
  · obtain ⟨a, b, rfl, hb, la, lb, k⟩ := h
    have nd := c_law_pair.nd
    refine ⟨_, (pss_cons (ps_par (i := 2) (j := 3) (by rfl) nd rfl rfl (by decide) rfl rfl (pa_cons (pv 0) (pa_cons (pv 1) pa_nil)) (by rfl))
      (pss_cons (ps_while PassesOwn.never (pt_cmpR op_gt (pv 3) pe_int (nomark _))
        (pss_one (ps_par (i := 2) (j := 3) (by rfl) nd rfl rfl (by decide) rfl rfl (pa_cons (pv 3) (pa_cons (pe_op op_mod (pe_callTy call_int1 (by rfl) T.int (by decide +kernel) (pa_cons (pv 2) pa_nil)) (pv 3)) pa_nil)) (by rfl))))
      (pss_one (ps_ret (pe_tup (pa_cons (pe_op op_fdivW (pv 0) (pv 2)) (pa_cons (pe_op op_fdivW (pv 1) (pv 2)) pa_nil))))))), ?_⟩
    show (_ : TS) _ [some _, some _, none, none] _
    try dsimp only [cxOf, Cx.nox]
    walk_at "go"
    refine r_while (fun m σ H1 => H1 = H ∧ ∃ x y : Nat, y = m ∧ 0 < x + y ∧ σ = [some (.int (a : Int)), some (.int (b : Int)), some (.int (x : Int)), some (.int (y : Int))] ∧ Nat.gcd x y = Nat.gcd a b) b ⟨rfl, a, b, rfl, by omega, rfl, rfl⟩ ?_
    rintro m σ H1 ⟨rfl, x, y, rfl, hxy, rfl, hg⟩
    walk_at "go"
    refine r_dec (fun hy => ?_) (fun hy => ?_)
    · have hy' : 0 < y := by omega
      refine ⟨fun σ H' => H' = H1 ∧ σ = [some (.int (a : Int)), some (.int (b : Int)), some (.int (y : Int)), some (.int ((x % y : Nat) : Int))], ?_, ?_⟩
      · rintro σ' H' ⟨rfl, rfl⟩
        refine ⟨x % y, Nat.mod_lt _ hy', rfl, y, x % y, rfl, by omega, rfl, ?_⟩
        rw [← hg, Nat.gcd_comm x y, Nat.gcd_rec y x, Nat.gcd_comm]
      · walk_at "go"
        exact ⟨rfl, rfl⟩
    · have y0 : y = 0 := by omega
      subst y0
      rw [Nat.gcd_zero_right] at hg
      have hx : 0 < x := by omega
      have lx : x < 2 ^ 8900 := Nat.lt_of_le_of_lt (by rw [hg]; exact Nat.gcd_le_right _ hb) lb
      have d1 : ∀ i : Int, CDivW i (x : Int) := fun i => cdiv hx lx (by decide) (by decide)
      walk_at "go"
      refine r_I (d1 _) ?_
      walk_at "go"
      refine r_I (d1 _) ?_
      walk_at "go"
      refine k _ _ (Ext.refl.new (by assumption)) ⟨_, rfl, ?_⟩
      obtain ⟨x1, x2⟩ := mk_parts a b hb
      rw [x1, x2, ← hg]
      simp only [Int.natCast_ediv]
      exact tupS
end
end Yk

set_option maxHeartbeats 1000000
namespace Yk
open PySem PySem.Spec PyProof.Rows L2

section
variable {P : Program} {w : World} {K : PySem.W.Frag} {mg : Str → Option Value} {base : Heap} {f : Addr} {fd : FuncData}
theorem szd {n : Nat} {q : Rat} (h : Sz n q) : (q.den : Int).natAbs < 2 ^ n := h.2
theorem mulz {m n : Nat} {i j : Int} (hi : i.natAbs < 2 ^ m) (hj : j.natAbs < 2 ^ n) : (i * j).natAbs < 2 ^ (m + n) := wide_lt hi hj
/-- amounts are not below nought: their first numbers are natural -/
theorem num_nat {q : Rat} (h : 0 ≤ q) : q.num = ((q.num.toNat : Nat) : Int) := (Int.toNat_of_nonneg (num_nn h)).symm
theorem pos_num {q : Rat} (h : 0 < q) : 0 < q.num.toNat := by have := num_pos' h; omega
theorem mk_add (p q : Rat) : mkRat (p.num * q.den + q.num * p.den) (p.den * q.den) = p + q := by rw [Rat.add_def, Rat.normalize_eq_mkRat]
theorem mk_mul (p q : Rat) : mkRat (p.num * q.num) (p.den * q.den) = p * q := by rw [Rat.mul_def, Rat.normalize_eq_mkRat]
def spMore (K : PySem.W.Frag) : Sp := fun vs H Q _ => ∃ v1 v2 p q, vs = [v1, v2] ∧ Am K H v1 p ∧ Am K H v2 q ∧ Sz 4000 p ∧ Sz 4000 q ∧ Q (.bl (decide (q < p))) H
abbrev s_law_more : Stmt := top 35
theorem c_law_more : FnScope ["_law_p", "_law_q"] ["_law_p", "_law_q"] (defScope s_law_more) := ⟨rfl, rfl, rfl, by decide +kernel, rfl, by decide +kernel, by decide +kernel⟩
theorem f_law_more (F : FunD K "_law_more" "_law_more" (defArgs s_law_more) (defBody s_law_more) (defScope s_law_more) [] [] f fd) (hm : mg "_law_more" = some (.ref f))  : Fn P w K mg base 1 "_law_more" (spMore K) := by
  refine fn_def F hm c_law_more (fun vs H Q E h => ?_) (fun _ _ _ _ _ _ us hl => match us, hl with | [_, _], _ => rfl) (fun cdv A outer s H vs Q E hr h => ?_)
  · obtain ⟨v1, v2, p, q, rfl, _⟩ := h
    rfl
  · obtain ⟨v1, v2, p, q, rfl, ⟨a1, rfl, h1⟩, ⟨a2, rfl, h2⟩, z1, z2, k⟩ := h
    have nd := c_law_more.nd
    refine ⟨_, (pss_one (ps_ret (pe_cmpR op_gt (pe_op op_mulW (pe_ix ix_tup (pv 0) pe_int (fun _ _ => rfl)) (pe_ix ix_tup (pv 1) pe_int (fun _ _ => rfl))) (pe_op op_mulW (pe_ix ix_tup (pv 1) pe_int (fun _ _ => rfl)) (pe_ix ix_tup (pv 0) pe_int (fun _ _ => rfl))) (nomark _)))), ?_⟩
    show (_ : TS) _ [some _, some _] _
    try dsimp only [cxOf, Cx.nox]
    have m1 : CMulW p.num (q.den : Int) := cmul z1.1 (szd z2) (by decide) (by decide) (by decide)
    have m2 : CMulW q.num (p.den : Int) := cmul z2.1 (szd z1) (by decide) (by decide) (by decide)
    walk_at "go"
    have e : decide (q.num * (p.den : Int) < p.num * (q.den : Int)) = decide (q < p) := decide_eq_decide.mpr (Rat.lt_iff q p).symm
    rw [e]
    exact k
/-- two amounts, of at most 2000 bits, to one -/
def sp2 (ok : Rat → Rat → Prop) (F : Rat → Rat → Rat) (K : PySem.W.Frag) : Sp := fun vs H Q _ => ∃ v1 v2 p q, vs = [v1, v2] ∧ Am K H v1 p ∧ Am K H v2 q ∧ Sz 4000 p ∧ Sz 4000 q ∧ 0 ≤ p ∧ 0 ≤ q ∧ ok p q ∧ RetAm K H Q (F p q)
abbrev s_law_add : Stmt := top 36
theorem c_law_add : FnScope ["_law_p", "_law_q"] ["_law_p", "_law_q"] (defScope s_law_add) := ⟨rfl, rfl, rfl, by decide +kernel, rfl, by decide +kernel, by decide +kernel⟩
theorem f_law_add (F : FunD K "_law_add" "_law_add" (defArgs s_law_add) (defBody s_law_add) (defScope s_law_add) [] [] f fd) (hm : mg "_law_add" = some (.ref f)) (F_law_pair : Fn P w K mg base 1 "_law_pair" (spPair K)) : Fn P w K mg base 2 "_law_add" (sp2 (fun _ _ => True) (· + ·) K) := by
  refine fn_def F hm c_law_add (fun vs H Q E h => ?_) (fun _ _ _ _ _ _ us hl => match us, hl with | [_, _], _ => rfl) (fun cdv A outer s H vs Q E hr h => ?_)
  · obtain ⟨v1, v2, p, q, rfl, _⟩ := h
    rfl
  · obtain ⟨v1, v2, p, q, rfl, ⟨a1, rfl, h1⟩, ⟨a2, rfl, h2⟩, z1, z2, p0, q0, _, k⟩ := h
    have nd := c_law_add.nd
    refine ⟨_, (pss_one (ps_ret (pe_fn F_law_pair (hr.mono (by decide)) (pa_cons (pe_op op_add (pe_op op_mulW (pe_ix ix_tup (pv 0) pe_int (fun _ _ => rfl)) (pe_ix ix_tup (pv 1) pe_int (fun _ _ => rfl))) (pe_op op_mulW (pe_ix ix_tup (pv 1) pe_int (fun _ _ => rfl)) (pe_ix ix_tup (pv 0) pe_int (fun _ _ => rfl)))) (pa_cons (pe_op op_mulW (pe_ix ix_tup (pv 0) pe_int (fun _ _ => rfl)) (pe_ix ix_tup (pv 1) pe_int (fun _ _ => rfl))) pa_nil))))), ?_⟩
    show (_ : TS) _ [some _, some _] _
    try dsimp only [cxOf, Cx.nox]
    have m1 : CMulW p.num (q.den : Int) := cmul z1.1 (szd z2) (by decide) (by decide) (by decide)
    have m2 : CMulW q.num (p.den : Int) := cmul z2.1 (szd z1) (by decide) (by decide) (by decide)
    have m3 : CMulW (p.den : Int) (q.den : Int) := cmul (szd z1) (szd z2) (by decide) (by decide) (by decide)
    walk_at "go"
    have e1 := mulz z1.1 (szd z2)
    have e2 := mulz z2.1 (szd z1)
    have e3 : p.den * q.den < 2 ^ (4000 + 4000) := by rw [Nat.pow_add]; exact Nat.mul_lt_mul'' z1.2 z2.2
    have e4 : (2 : Nat) ^ (4000 + 4000) + 2 ^ (4000 + 4000) ≤ 2 ^ 8900 := by decide +kernel
    have n1 : 0 ≤ p.num * (q.den : Int) := Int.mul_nonneg (num_nn p0) (by omega)
    have n2 : 0 ≤ q.num * (p.den : Int) := Int.mul_nonneg (num_nn q0) (by omega)
    refine ⟨(p.num * (q.den : Int) + q.num * (p.den : Int)).toNat, p.den * q.den, ?_, Nat.mul_pos p.den_pos q.den_pos, ?_, by omega, fun v H' e a => k v H' e ?_⟩
    · rw [Int.toNat_of_nonneg (by omega), Int.natCast_mul]
    · generalize (2 : Nat) ^ (4000 + 4000) = B at *
      generalize (2 : Nat) ^ 8900 = C at *
      omega
    · rw [Int.toNat_of_nonneg (by omega), mk_add] at a
      exact a
abbrev s_law_mul : Stmt := top 38
theorem c_law_mul : FnScope ["_law_p", "_law_q"] ["_law_p", "_law_q"] (defScope s_law_mul) := ⟨rfl, rfl, rfl, by decide +kernel, rfl, by decide +kernel, by decide +kernel⟩
theorem f_law_mul (F : FunD K "_law_mul" "_law_mul" (defArgs s_law_mul) (defBody s_law_mul) (defScope s_law_mul) [] [] f fd) (hm : mg "_law_mul" = some (.ref f)) (F_law_pair : Fn P w K mg base 1 "_law_pair" (spPair K)) : Fn P w K mg base 2 "_law_mul" (sp2 (fun _ _ => True) (· * ·) K) := by
  refine fn_def F hm c_law_mul (fun vs H Q E h => ?_) (fun _ _ _ _ _ _ us hl => match us, hl with | [_, _], _ => rfl) (fun cdv A outer s H vs Q E hr h => ?_)
  · obtain ⟨v1, v2, p, q, rfl, _⟩ := h
    rfl
  · obtain ⟨v1, v2, p, q, rfl, ⟨a1, rfl, h1⟩, ⟨a2, rfl, h2⟩, z1, z2, p0, q0, _, k⟩ := h
    have nd := c_law_mul.nd
    refine ⟨_, (pss_one (ps_ret (pe_fn F_law_pair (hr.mono (by decide)) (pa_cons (pe_op op_mulW (pe_ix ix_tup (pv 0) pe_int (fun _ _ => rfl)) (pe_ix ix_tup (pv 1) pe_int (fun _ _ => rfl))) (pa_cons (pe_op op_mulW (pe_ix ix_tup (pv 0) pe_int (fun _ _ => rfl)) (pe_ix ix_tup (pv 1) pe_int (fun _ _ => rfl))) pa_nil))))), ?_⟩
    show (_ : TS) _ [some _, some _] _
    try dsimp only [cxOf, Cx.nox]
    have m1 : CMulW p.num q.num := cmul z1.1 z2.1 (by decide) (by decide) (by decide)
    have m3 : CMulW (p.den : Int) (q.den : Int) := cmul (szd z1) (szd z2) (by decide) (by decide) (by decide)
    walk_at "go"
    have e1 := mulz z1.1 z2.1
    have e3 : p.den * q.den < 2 ^ (4000 + 4000) := by rw [Nat.pow_add]; exact Nat.mul_lt_mul'' z1.2 z2.2
    have e4 : (2 : Nat) ^ (4000 + 4000) ≤ 2 ^ 8900 := by decide +kernel
    have n1 : 0 ≤ p.num * q.num := Int.mul_nonneg (num_nn p0) (num_nn q0)
    refine ⟨(p.num * q.num).toNat, p.den * q.den, ?_, Nat.mul_pos p.den_pos q.den_pos, ?_, by omega, fun v H' e a => k v H' e ?_⟩
    · rw [Int.toNat_of_nonneg (by omega), Int.natCast_mul]
    · generalize (2 : Nat) ^ (4000 + 4000) = B at *
      generalize (2 : Nat) ^ 8900 = C at *
      omega
    · rw [Int.toNat_of_nonneg (by omega), mk_mul] at a
      exact a
theorem mk_quot {p q : Rat} (hq : 0 < q) : mkRat (p.num * q.den) (p.den * q.num.toNat) = p / q := by
  obtain ⟨i1, i2⟩ := inv_parts hq
  have e : q⁻¹.den = q.num.toNat := by omega
  rw [Rat.div_def, ← mk_mul, i1, e]
abbrev s_law_div : Stmt := top 39
theorem c_law_div : FnScope ["_law_p", "_law_q"] ["_law_p", "_law_q"] (defScope s_law_div) := ⟨rfl, rfl, rfl, by decide +kernel, rfl, by decide +kernel, by decide +kernel⟩
theorem f_law_div (F : FunD K "_law_div" "_law_div" (defArgs s_law_div) (defBody s_law_div) (defScope s_law_div) [] [] f fd) (hm : mg "_law_div" = some (.ref f)) (F_law_pair : Fn P w K mg base 1 "_law_pair" (spPair K)) : Fn P w K mg base 2 "_law_div" (sp2 (fun _ q => 0 < q) (· / ·) K) := by
  refine fn_def F hm c_law_div (fun vs H Q E h => ?_) (fun _ _ _ _ _ _ us hl => match us, hl with | [_, _], _ => rfl) (fun cdv A outer s H vs Q E hr h => ?_)
  · obtain ⟨v1, v2, p, q, rfl, _⟩ := h
    rfl
  · obtain ⟨v1, v2, p, q, rfl, ⟨a1, rfl, h1⟩, ⟨a2, rfl, h2⟩, z1, z2, p0, q0, hq, k⟩ := h
    have nd := c_law_div.nd
    refine ⟨_, (pss_one (ps_ret (pe_fn F_law_pair (hr.mono (by decide)) (pa_cons (pe_op op_mulW (pe_ix ix_tup (pv 0) pe_int (fun _ _ => rfl)) (pe_ix ix_tup (pv 1) pe_int (fun _ _ => rfl))) (pa_cons (pe_op op_mulW (pe_ix ix_tup (pv 0) pe_int (fun _ _ => rfl)) (pe_ix ix_tup (pv 1) pe_int (fun _ _ => rfl))) pa_nil))))), ?_⟩
    show (_ : TS) _ [some _, some _] _
    try dsimp only [cxOf, Cx.nox]
    have m1 : CMulW p.num (q.den : Int) := cmul z1.1 (szd z2) (by decide) (by decide) (by decide)
    have m3 : CMulW (p.den : Int) q.num := cmul (szd z1) z2.1 (by decide) (by decide) (by decide)
    walk_at "go"
    have e1 := mulz z1.1 (szd z2)
    have l2 : q.num.toNat < 2 ^ 4000 := by have := z2.1; have := num_nn q0; generalize (2 : Nat) ^ 4000 = B at *; omega
    have e3 : p.den * q.num.toNat < 2 ^ (4000 + 4000) := by rw [Nat.pow_add]; exact Nat.mul_lt_mul'' z1.2 l2
    have e4 : (2 : Nat) ^ (4000 + 4000) ≤ 2 ^ 8900 := by decide +kernel
    have n1 : 0 ≤ p.num * (q.den : Int) := Int.mul_nonneg (num_nn p0) (by omega)
    refine ⟨(p.num * (q.den : Int)).toNat, p.den * q.num.toNat, ?_, Nat.mul_pos p.den_pos (pos_num hq), ?_, by omega, fun v H' e a => k v H' e ?_⟩
    · rw [Int.toNat_of_nonneg (by omega), Int.natCast_mul, ← num_nat q0]
    · generalize (2 : Nat) ^ (4000 + 4000) = B at *
      generalize (2 : Nat) ^ 8900 = C at *
      omega
    · rw [Int.toNat_of_nonneg (by omega), mk_quot hq] at a
      exact a
end
end Yk

set_option maxHeartbeats 1000000
namespace Yk
open PySem PySem.Spec PyProof.Rows L2

section
variable {P : Program} {w : World} {K : PySem.W.Frag} {mg : Str → Option Value} {base : Heap} {f : Addr} {fd : FuncData}
def lmin (p q : Rat) : Rat := if q < p then q else p
def lmax (p q : Rat) : Rat := if q < p then p else q
abbrev s_law_min : Stmt := top 40
theorem c_law_min : FnScope ["_law_p", "_law_q"] ["_law_p", "_law_q"] (defScope s_law_min) := ⟨rfl, rfl, rfl, by decide +kernel, rfl, by decide +kernel, by decide +kernel⟩
theorem f_law_min (F : FunD K "_law_min" "_law_min" (defArgs s_law_min) (defBody s_law_min) (defScope s_law_min) [] [] f fd) (hm : mg "_law_min" = some (.ref f)) (F_law_more : Fn P w K mg base 1 "_law_more" (spMore K)) : Fn P w K mg base 2 "_law_min" (sp2 (fun _ _ => True) lmin K) := by
  refine fn_def F hm c_law_min (fun vs H Q E h => ?_) (fun _ _ _ _ _ _ us hl => match us, hl with | [_, _], _ => rfl) (fun cdv A outer s H vs Q E hr h => ?_)
  · obtain ⟨v1, v2, p, q, rfl, _⟩ := h
    rfl
  · obtain ⟨v1, v2, p, q, rfl, h1, h2, z1, z2, p0, q0, _, k⟩ := h
    have nd := c_law_min.nd
    refine ⟨_, (pss_one (ps_ret (pe_ifExp (pt_val (pe_fn F_law_more (hr.mono (by decide)) (pa_cons (pv 0) (pa_cons (pv 1) pa_nil)))) (pv 1) (pv 0)))), ?_⟩
    show (_ : TS) _ [some _, some _] _
    try dsimp only [cxOf, Cx.nox]
    walk_at "go"
    refine ⟨_, _, p, q, rfl, h1, h2, z1, z2, ?_⟩
    refine r_bl ?_
    refine r_dec (fun hl => ?_) (fun hl => ?_)
    · walk_at "go"
      refine k _ _ Ext.refl ?_
      unfold lmin
      rw [if_pos hl]
      exact h2
    · walk_at "go"
      refine k _ _ Ext.refl ?_
      unfold lmin
      rw [if_neg hl]
      exact h1
abbrev s_law_max : Stmt := top 41
theorem c_law_max : FnScope ["_law_p", "_law_q"] ["_law_p", "_law_q"] (defScope s_law_max) := ⟨rfl, rfl, rfl, by decide +kernel, rfl, by decide +kernel, by decide +kernel⟩
theorem f_law_max (F : FunD K "_law_max" "_law_max" (defArgs s_law_max) (defBody s_law_max) (defScope s_law_max) [] [] f fd) (hm : mg "_law_max" = some (.ref f)) (F_law_more : Fn P w K mg base 1 "_law_more" (spMore K)) : Fn P w K mg base 2 "_law_max" (sp2 (fun _ _ => True) lmax K) := by
  refine fn_def F hm c_law_max (fun vs H Q E h => ?_) (fun _ _ _ _ _ _ us hl => match us, hl with | [_, _], _ => rfl) (fun cdv A outer s H vs Q E hr h => ?_)
  · obtain ⟨v1, v2, p, q, rfl, _⟩ := h
    rfl
  · obtain ⟨v1, v2, p, q, rfl, h1, h2, z1, z2, p0, q0, _, k⟩ := h
    have nd := c_law_max.nd
    refine ⟨_, (pss_one (ps_ret (pe_ifExp (pt_val (pe_fn F_law_more (hr.mono (by decide)) (pa_cons (pv 0) (pa_cons (pv 1) pa_nil)))) (pv 0) (pv 1)))), ?_⟩
    show (_ : TS) _ [some _, some _] _
    try dsimp only [cxOf, Cx.nox]
    walk_at "go"
    refine ⟨_, _, p, q, rfl, h1, h2, z1, z2, ?_⟩
    refine r_bl ?_
    refine r_dec (fun hl => ?_) (fun hl => ?_)
    · walk_at "go"
      refine k _ _ Ext.refl ?_
      unfold lmax
      rw [if_pos hl]
      exact h1
    · walk_at "go"
      refine k _ _ Ext.refl ?_
      unfold lmax
      rw [if_neg hl]
      exact h2
def spOrder (K : PySem.W.Frag) : Sp := fun vs H Q _ => ∃ v1 v2 p q, vs = [v1, v2] ∧ Am K H v1 p ∧ Am K H v2 q ∧ Sz 4000 p ∧ Sz 4000 q ∧ Q (.int (cmpQ p q)) H
theorem sumQ_nn : ∀ {qs : List Rat} {z : Rat}, 0 ≤ z → (∀ q ∈ qs, 0 ≤ q) → 0 ≤ qs.foldl (· + ·) z
  | [], z, h, _ => h
  | q :: r, z, h, hq => sumQ_nn (qs := r) (z := z + q) (Rat.add_nonneg h (hq q List.mem_cons_self)) fun x hx => hq x (List.mem_cons_of_mem _ hx)
def spSum (K : PySem.W.Frag) : Sp := fun vs H Q _ => ∃ t xs qs m, vs = [V.ref t] ∧ SqL K H t xs ∧ Ams K H xs qs ∧ (∀ q ∈ qs, Sz m q) ∧ (∀ q ∈ qs, 0 ≤ q) ∧ m ≤ 4000 ∧ 1 + qs.length * (m + 1) ≤ 4000 ∧ RetAm K H Q (sumQ qs)
abbrev s_law_sum : Stmt := top 42
theorem c_law_sum : FnScope ["_law_pairs", "_law_done", "_law_p"] ["_law_pairs"] (defScope s_law_sum) := ⟨rfl, rfl, rfl, by decide +kernel, rfl, by decide +kernel, by decide +kernel⟩
theorem f_law_sum (F : FunD K "_law_sum" "_law_sum" (defArgs s_law_sum) (defBody s_law_sum) (defScope s_law_sum) [] [] f fd) (hm : mg "_law_sum" = some (.ref f)) (F_law_add : Fn P w K mg base 2 "_law_add" (sp2 (fun _ _ => True) (· + ·) K)) : Fn P w K mg base 3 "_law_sum" (spSum K) := by
  refine fn_def F hm c_law_sum (fun vs H Q E h => ?_) (fun _ _ _ _ _ _ us hl => match us, hl with | [_], _ => rfl) (fun cdv A outer s H vs Q E hr h => ?_)
  · obtain ⟨t, xs, qs, m, rfl, _⟩ := h
    rfl
  · obtain ⟨t, xs, qs, m, rfl, ht, ha, hz, hn, hm, hl, k⟩ := h
    have nd := c_law_sum.nd
    refine ⟨_, (pss_cons (ps_set (i := 1) nd rfl (by first | exact Or.inl rfl | exact Or.inr rfl) (pe_tup (pa_cons pe_int (pa_cons pe_int pa_nil))))
      (pss_cons (ps_for PassesOwn.never rfl (pi_list (pv 0)) (pg_name (i := 2) nd rfl (by first | exact Or.inl rfl | exact Or.inr rfl))
        (pss_one (ps_set (i := 1) nd rfl (by first | exact Or.inl rfl | exact Or.inr rfl) (pe_fn F_law_add (hr.mono (by decide)) (pa_cons (pv 1) (pa_cons (pv 2) pa_nil))))))
      (pss_one (ps_ret (pv 1))))), ?_⟩
    show (_ : TS) _ [some _, none, none] _
    try dsimp only [cxOf, Cx.nox]
    walk_at "go"
    refine r_forL rfl (by walk_at "sq") (fun i σ H1 => Ext [] H H1 ∧ ∃ fv u, σ = [some (.ref t), some fv, u] ∧ Am K H1 fv (sumQ (qs.take i))) ⟨Ext.refl.new (by assumption), _, _, rfl, ⟨_, rfl, tupS⟩⟩ (fun i σ H1 _ h => lst0 h.1 ht) ?_ ?_
    · rintro i x σ H1 hx ⟨e1, fv, u, rfl, hf⟩
      have hi : i < qs.length := by rw [← ha.1]; exact (List.getElem?_eq_some_iff.mp hx).1
      have hq : qs[i]? = some qs[i] := List.getElem?_eq_getElem hi
      have hb := sumQ_sz i hz (by omega)
      have hsz : 1 + i * (m + 1) ≤ 4000 := Nat.le_trans (by have := Nat.mul_le_mul_right (m + 1) (Nat.le_of_lt hi); omega) hl
      walk_at "go"
      refine ⟨_, _, _, qs[i], rfl, hf, (ha.2 i x _ hx hq).x0 e1, hb.mono hsz, (hz _ (List.getElem_mem hi)).mono hm, sumQ_nn (by decide) (fun q hq => hn q (List.mem_of_mem_take hq)), hn _ (List.getElem_mem hi), trivial, fun v H' e a => ?_⟩
      walk_at "go"
      refine ⟨e1.trans e, _, _, rfl, ?_⟩
      rw [sumQ_take hq]
      exact a
    · rintro σ H1 ⟨e1, fv, u, rfl, hf⟩
      walk_at "go"
      rw [ha.1, List.take_length] at hf
      exact k _ _ e1 hf
end
end Yk

set_option maxHeartbeats 2000000
namespace Yk
open PySem PySem.Spec PyProof.Rows L2

section
variable {P : Program} {w : World} {K : PySem.W.Frag} {mg : Str → Option Value} {base : Heap} {f : Addr} {fd : FuncData}
theorem lst_upd {K : PySem.W.Frag} {H : Hp} {a b : Addr} {o : HO} {xs l : List V} (h : SqL K H a xs) (hb : H b = some (.lst l)) (hd : xs ≠ l) : SqL K (upd H b o) a xs := by
  rcases h with (h | ⟨u, h⟩) | h
  · exact .inl (.inl (by rw [upd_ne (fun z => hd (by rw [z, hb] at h; cases h; rfl))]; exact h))
  · exact .inl (.inr ⟨u, by rw [upd_ne (fun z => by rw [z, hb] at h; cases h)]; exact h⟩)
  · exact .inr h
theorem ns_ne (ns : List Int) (it : Addr) (l : List V) : ns.map V.int ≠ .ref it :: l := by
  cases ns with
  | nil => intro h; cases h
  | cons n r => intro h; cases h
theorem cpow {i : Int} {j : Int} (h0 : 0 ≤ j) (h1 : j ≤ 1000000) (h : i.natAbs < 2 ^ 64) : CPow i j := ⟨h0, h1, h⟩
theorem cdivc (i : Int) : CDivW i 97 := ⟨by decide, by decide +kernel⟩
def spDraw (K : PySem.W.Frag) : Sp := fun vs H Q _ => ∃ (b : Bag) (n : Int), vs = [.ref b.a, .int n] ∧ 0 < n ∧ n < 2 ^ 400 ∧ BagAt K H b ∧ ∀ (x : Int) H', 0 ≤ x → x < n → BagAt K H' b → Ext [b.a] H H' → Q (.int x) H'
theorem at_map {ns : List Int} {i : Nat} (h : i < ns.length) : atI (ns.map V.int) (i : Int) = some (.int ns[i]) := atI_nat (by rw [List.getElem?_map, List.getElem?_eq_getElem h] <;> rfl)
theorem bag_ex {K : PySem.W.Frag} {H : Hp} {b it : Addr} {ns : List Int} {pos : Nat} {rest seed cnt : Int} (hb : H b = some (.lst [.ref it, .int (pos : Int), .int rest, .int seed, .int cnt])) (hi : SqL K H it (ns.map V.int)) (hns : ns.length ≤ 63)
    (hp : pos ≤ ns.length) (hr : 0 ≤ rest) (h0 : 0 ≤ seed) (h1 : seed < 2147483629) : BagAt K H ⟨b, it, ns⟩ := ⟨_, hb, hi, hns, pos, rest, seed, cnt, rfl, hp, hr, h0, h1⟩
theorem modI (a : Int) {n : Int} (h : 0 < n) : 0 ≤ a % n ∧ a % n < n := ⟨Int.emod_nonneg a (by omega), Int.emod_lt_of_pos a h⟩
abbrev s_law_draw : Stmt := top 31
theorem c_law_draw : FnScope ["_law_bag_here", "_law_many", "_law_item", "_law_digit"] ["_law_bag_here", "_law_many"] (defScope s_law_draw) := ⟨rfl, rfl, rfl, by decide +kernel, rfl, by decide +kernel, by decide +kernel⟩
theorem f_law_draw (F : FunD K "_law_draw" "_law_draw" (defArgs s_law_draw) (defBody s_law_draw) (defScope s_law_draw) [] [] f fd) (hm : mg "_law_draw" = some (.ref f)) (T : Bt mg) : Fn P w K mg base 1 "_law_draw" (spDraw K) := by
  refine fn_def F hm c_law_draw (fun vs H Q E h => ?_) (fun _ _ _ _ _ _ us hl => match us, hl with | [_, _], _ => rfl) (fun cdv A outer s H vs Q E hr h => ?_)
  · obtain ⟨b, n, rfl, _⟩ := h
    rfl
  · obtain ⟨⟨b, it, ns⟩, n, rfl, hn, hn2, ⟨l, hb, hi, hns, pos, rest, seed, cnt, rfl, hp, hr0, hs0, hs1⟩, k⟩ := h
    have nd := c_law_draw.nd
    dsimp only at hb hi hns hp k
    refine ⟨_, (pss_cons (ps_asg (pe_op op_add (pe_ix ix_list (pv 0) pe_int (fun _ _ => rfl)) pe_int) (pg_sub (pv 0) pe_int set_list))
      (pss_mid (ps_if (PW.pt (pw_and (pt_cmpR op_eq (pe_ix ix_list (pv 0) pe_int (fun _ _ => rfl)) pe_int (nomark _)) (pw_and1 (pt_cmpR op_lt (pe_ix ix_list (pv 0) pe_int (fun _ _ => rfl)) (pe_callB cr_len (by rfl) T.len (by decide +kernel) (pa_cons (pe_ix ix_list (pv 0) pe_int (fun _ _ => rfl)) pa_nil)) (nomark _)))))
        (pss_cons (ps_set (i := 2) nd rfl (by first | exact Or.inl rfl | exact Or.inr rfl) (pe_ix ix_list (pe_ix ix_list (pv 0) pe_int (fun _ _ => rfl)) (pe_ix ix_list (pv 0) pe_int (fun _ _ => rfl)) (fun _ _ => rfl)))
        (pss_cons (ps_asg (pe_op op_add (pe_ix ix_list (pv 0) pe_int (fun _ _ => rfl)) pe_int) (pg_sub (pv 0) pe_int set_list))
        (pss_one (ps_if (pt_cmpR op_ge (pv 2) (pe_op op_pow pe_int pe_int) (nomark _))
          (pss_one (ps_asg (pv 2) (pg_sub (pv 0) pe_int set_list)))
          (pss_one (ps_asg (pe_op op_mod (pe_callTy call_int1 (by rfl) T.int (by decide +kernel) (pa_cons (pe_op op_add (pe_op op_add (pe_op op_mul (pe_ix ix_list (pv 0) pe_int (fun _ _ => rfl)) pe_int) (pe_op op_mul (pe_op op_mod (pe_callTy call_int1 (by rfl) T.int (by decide +kernel) (pa_cons (pv 2) pa_nil)) pe_int) pe_int)) pe_int) pa_nil)) pe_int) (pg_sub (pv 0) pe_int set_list)))))))
        pss_nil)
      (pss_cons (ps_if (pt_cmpR op_gt (pe_ix ix_list (pv 0) pe_int (fun _ _ => rfl)) pe_int (nomark _))
        (pss_cons (ps_set (i := 3) nd rfl (by first | exact Or.inl rfl | exact Or.inr rfl) (pe_op op_mod (pe_callTy call_int1 (by rfl) T.int (by decide +kernel) (pa_cons (pe_ix ix_list (pv 0) pe_int (fun _ _ => rfl)) pa_nil)) (pv 1)))
        (pss_cons (ps_asg (pe_op op_fdivW (pe_ix ix_list (pv 0) pe_int (fun _ _ => rfl)) (pv 1)) (pg_sub (pv 0) pe_int set_list))
        (pss_one (ps_ret (pv 3)))))
        pss_nil)
      (pss_cons (ps_asg (pe_op op_mod (pe_callTy call_int1 (by rfl) T.int (by decide +kernel) (pa_cons (pe_op op_add (pe_op op_add (pe_op op_pow (pe_ix ix_list (pv 0) pe_int (fun _ _ => rfl)) pe_int) (pe_op op_mul (pe_ix ix_list (pv 0) pe_int (fun _ _ => rfl)) pe_int)) pe_int) pa_nil)) pe_int) (pg_sub (pv 0) pe_int set_list))
      (pss_one (ps_ret (pe_op op_mod (pe_callTy call_int1 (by rfl) T.int (by decide +kernel) (pa_cons (pe_op op_add (pe_op op_fdivW (pe_ix ix_list (pv 0) pe_int (fun _ _ => rfl)) pe_int) (pe_op op_mul (pe_op op_mod (pe_callTy call_int1 (by rfl) T.int (by decide +kernel) (pa_cons (pe_ix ix_list (pv 0) pe_int (fun _ _ => rfl)) pa_nil)) pe_int) pe_int)) pa_nil)) (pv 1)))))))), ?_⟩
    show (_ : TS) _ [some _, some _, none, none] _
    try dsimp only [cxOf, Cx.nox]
    have bb : SqL K H b [.ref it, .int (pos : Int), .int rest, .int seed, .int cnt] := .inl (.inl hb)
    walk_at "go"
    refine r_setB (K := K) hb rfl _ rfl (fun H1 hb1 e1 c1 => ?_)
    have bb1 : SqL K H1 b [.ref it, .int (pos : Int), .int rest, .int seed, .int (cnt + 1)] := .inl (.inl hb1)
    have hi1 := c1 _ _ hi (ns_ne _ _ _)
    refine r_mid (fun σ H2 => ∃ (u : Option V) (pos' : Nat) (rest' seed' : Int), σ = [some (.ref b), some (.int n), u, none] ∧ H2 b = some (.lst [.ref it, .int (pos' : Int), .int rest', .int seed', .int (cnt + 1)]) ∧ SqL K H2 it (ns.map V.int) ∧ Ext [b] H H2 ∧ pos' ≤ ns.length ∧ 0 ≤ rest' ∧ 0 ≤ seed' ∧ seed' < 2147483629) ?_ ?_
    · walk_at "go"
      refine r_dec (fun hrest => ?_) (fun hrest => ?_)
      · walk_at "go"
        refine r_dec (fun hpos => ?_) (fun hpos => ?_)
        · have hpn : pos < ns.length := by rw [List.length_map] at hpos; omega
          walk_at "go"
          refine r_ixL hi1 (at_map hpn) ?_
          walk_at "go"
          refine r_setB (K := K) hb1 rfl _ rfl (fun H2 hb2 e2 c2 => ?_)
          have bb2 : SqL K H2 b [.ref it, .int ((pos : Int) + 1), .int rest, .int seed, .int (cnt + 1)] := .inl (.inl hb2)
          have hi2 := c2 _ _ hi1 (ns_ne _ _ _)
          walk_at "go"
          refine r_dec (fun hge => ?_) (fun hge => ?_)
          · walk_at "go"
            refine r_setB (K := K) hb2 rfl _ rfl (fun H3 hb3 e3 c3 => ?_)
            exact ⟨_, pos + 1, ns[pos], seed, rfl, by rw [Int.natCast_add]; exact hb3, c3 _ _ hi2 (ns_ne _ _ _), (e1.trans e2).trans e3, hpn, Int.le_trans (by decide) hge, hs0, hs1⟩
          · walk_at "go"
            refine r_setB (K := K) hb2 rfl _ rfl (fun H3 hb3 e3 c3 => ?_)
            have hm := modI (seed * 69621 + ns[pos] % 2147483549 * 30103 + 89) (n := 2147483629) (by decide)
            exact ⟨_, pos + 1, rest, _, rfl, by rw [Int.natCast_add]; exact hb3, c3 _ _ hi2 (ns_ne _ _ _), (e1.trans e2).trans e3, hpn, hr0, hm.1, hm.2⟩
        · walk_at "go"
          exact ⟨_, pos, rest, seed, rfl, hb1, hi1, e1, hp, hr0, hs0, hs1⟩
      · walk_at "go"
        exact ⟨_, pos, rest, seed, rfl, hb1, hi1, e1, hp, hr0, hs0, hs1⟩
    · rintro σ H2 ⟨u, pos', rest', seed', rfl, hb2, hi2, e2, hp2, hr2, hs2, hs3⟩
      have bb2 : SqL K H2 b [.ref it, .int (pos' : Int), .int rest', .int seed', .int (cnt + 1)] := .inl (.inl hb2)
      walk_at "go"
      refine r_dec (fun hpos => ?_) (fun hpos => ?_)
      · have d1 : CDivW rest' n := wide_div hn (b := 400) (by omega) (by decide) (by decide)
        walk_at "go"
        refine r_setB (K := K) hb2 rfl _ rfl (fun H3 hb3 e3 c3 => ?_)
        walk_at "go"
        have hm := modI rest' hn
        exact k _ H3 hm.1 hm.2 (bag_ex hb3 (c3 _ _ hi2 (ns_ne _ _ _)) hns hp2 (Int.ediv_nonneg hr2 (by omega)) hs2 hs3) (e2.trans e3)
      · have c4 : CPow seed' 3 := ⟨by decide, by decide, by omega⟩
        walk_at "go"
        refine r_setB (K := K) hb2 rfl _ rfl (fun H3 hb3 e3 c3 => ?_)
        have hm := modI (seed' ^ Int.toNat 3 + (cnt + 1) * 1299709 + 60013) (n := 2147483629) (by decide)
        have bb3 : SqL K H3 b [.ref it, .int (pos' : Int), .int rest', .int ((seed' ^ Int.toNat 3 + (cnt + 1) * 1299709 + 60013) % 2147483629), .int (cnt + 1)] := .inl (.inl hb3)
        walk_at "go"
        have hm2 := modI ((seed' ^ Int.toNat 3 + (cnt + 1) * 1299709 + 60013) % 2147483629 / 97 + (seed' ^ Int.toNat 3 + (cnt + 1) * 1299709 + 60013) % 2147483629 % 7901 * 67) hn
        exact k _ H3 hm2.1 hm2.2 (bag_ex hb3 (c3 _ _ hi2 (ns_ne _ _ _)) hns hp2 hr2 hm.1 hm.2) (e2.trans e3)
end
end Yk

set_option maxHeartbeats 2000000
namespace Yk
open PySem PySem.Spec PyProof.Rows L2

section
variable {P : Program} {w : World} {K : PySem.W.Frag} {mg : Str → Option Value} {base : Heap} {f : Addr} {fd : FuncData}
theorem cut_all {xs : List V} (h : xs.length ≤ 63) : cutV xs none (some 63) = xs := by
  unfold cutV
  rw [show HT.sIx xs.length 0 none = 0 from rfl, show HT.sIx xs.length xs.length (some 63) = min 63 xs.length from HT.sIx_nat _ _ 63, List.drop_zero, Nat.min_eq_right h]
  simp
def spBag (K : PySem.W.Frag) : Sp := fun vs H Q _ => ∃ (a : Addr) (ns : List Int), vs = [.ref a] ∧ SqL K H a (ns.map V.int) ∧ ns.length ≤ 63 ∧ ∀ (b : Bag) H', H b.a = none → Ext [] H H' → BagAt K H' b → Q (.ref b.a) H'
abbrev s_law_bag : Stmt := top 30
theorem c_law_bag : FnScope ["_law_script", "_law_seed", "_law_item"] ["_law_script"] (defScope s_law_bag) := ⟨rfl, rfl, rfl, by decide +kernel, rfl, by decide +kernel, by decide +kernel⟩
theorem f_law_bag (F : FunD K "_law_bag" "_law_bag" (defArgs s_law_bag) (defBody s_law_bag) (defScope s_law_bag) [] [] f fd) (hm : mg "_law_bag" = some (.ref f)) (T : Bt mg) : Fn P w K mg base 1 "_law_bag" (spBag K) := by
  refine fn_def F hm c_law_bag (fun vs H Q E h => ?_) (fun _ _ _ _ _ _ us hl => match us, hl with | [_], _ => rfl) (fun cdv A outer s H vs Q E hr h => ?_)
  · obtain ⟨a, ns, rfl, _⟩ := h
    rfl
  · obtain ⟨a, ns, rfl, ha, hns, k⟩ := h
    have nd := c_law_bag.nd
    refine ⟨_, (pss_cons (ps_set (i := 1) nd rfl (by first | exact Or.inl rfl | exact Or.inr rfl) pe_int)
      (pss_cons (ps_for PassesOwn.never rfl (pi_list (pe_slice sl_list (pv 0) po_none (po_some pe_int))) (pg_name (i := 2) nd rfl (by first | exact Or.inl rfl | exact Or.inr rfl))
        (pss_one (ps_set (i := 1) nd rfl (by first | exact Or.inl rfl | exact Or.inr rfl) (pe_op op_mod (pe_callTy call_int1 (by rfl) T.int (by decide +kernel) (pa_cons (pe_op op_add (pe_op op_add (pe_op op_mul (pv 1) pe_int) (pe_op op_mod (pe_callTy call_int1 (by rfl) T.int (by decide +kernel) (pa_cons (pv 2) pa_nil)) pe_int)) pe_int) pa_nil)) pe_int))))
      (pss_one (ps_ret (pe_lst (pa_cons (pe_callTy cr_list (by rfl) T.list (by decide +kernel) (pa_cons (pe_slice sl_list (pv 0) po_none (po_some pe_int)) pa_nil)) (pa_cons pe_int (pa_cons pe_int (pa_cons (pv 1) (pa_cons pe_int pa_nil)))))))))), ?_⟩
    show (_ : TS) _ [some _, none, none] _
    try dsimp only [cxOf, Cx.nox]
    have hc : cutV (ns.map V.int) none (some 63) = ns.map V.int := cut_all (by rw [List.length_map]; exact hns)
    walk_at "go"
    refine r_for ?_
    refine r_iList ?_
    walk_at "go"
    refine r_slList ha fun p hp => ?_
    rw [hc]
    refine ⟨p, rfl, ⟨_, lstS⟩, r_loopL (xs := ns.map V.int) (fun i σ H1 => H1 = upd H p (.lst (ns.map V.int)) ∧ ∃ seed u, σ = [some (.ref a), some (.int seed), u] ∧ 0 ≤ seed ∧ seed < 2147483629) ⟨rfl, 13965, none, rfl, by decide, by decide⟩ (fun i σ H1 _ h => by rw [h.1]; exact lstS) ?_ ?_⟩
    · rintro i x σ H1 hx ⟨rfl, seed, u, rfl, h0, h1⟩
      obtain ⟨z, rfl⟩ : ∃ z, x = V.int z := by
        rw [List.getElem?_map] at hx
        cases e : ns[i]? with
        | none => rw [e] at hx; cases hx
        | some z => rw [e] at hx; exact ⟨z, (Option.some.inj hx).symm⟩
      walk_at "go"
      have hm := modI (seed * 48271 + z % 2147483587 + 307) (n := 2147483629) (by decide)
      exact ⟨rfl, _, _, rfl, hm.1, hm.2⟩
    · rintro σ H1 ⟨rfl, seed, u, rfl, h0, h1⟩
      walk_at "go"
      refine r_slList (lstN ha hp) fun p2 hp2 => ?_
      rw [hc]
      walk_at "go"
      refine r_list (.inl lstS) fun l hl => ?_
      walk_at "go"
      have x3 := ((Ext.refl (S := []) (H := H)).new hp).new hp2 |>.new (o := .lst (ns.map V.int)) hl
      exact k ⟨_, l, ns⟩ _ (x3.free (by assumption)) (x3.new (by assumption)) (bag_ex (pos := 0) upd_same (lstN lstS (by assumption)) hns (Nat.zero_le _) (Int.le_refl _) h0 h1)
/-- one of a row of things: what is told of all of them is told of it -/
def spOf (K : PySem.W.Frag) : Sp := fun vs H Q _ => ∃ (b : Bag) (l : Addr) (xs : List V), vs = [.ref b.a, .ref l] ∧ BagAt K H b ∧ SqL K H l xs ∧ b.a ≠ l ∧ 0 < xs.length ∧ xs.length ≤ 4000 ∧ ∀ (i : Nat) (x : V) H', xs[i]? = some x → BagAt K H' b → Ext [b.a] H H' → Q x H'
abbrev s_law_of : Stmt := top 32
theorem c_law_of : FnScope ["_law_bag_here", "_law_things"] ["_law_bag_here", "_law_things"] (defScope s_law_of) := ⟨rfl, rfl, rfl, by decide +kernel, rfl, by decide +kernel, by decide +kernel⟩
theorem f_law_of (F : FunD K "_law_of" "_law_of" (defArgs s_law_of) (defBody s_law_of) (defScope s_law_of) [] [] f fd) (hm : mg "_law_of" = some (.ref f)) (T : Bt mg) (F_law_draw : Fn P w K mg base 1 "_law_draw" (spDraw K)) : Fn P w K mg base 2 "_law_of" (spOf K) := by
  refine fn_def F hm c_law_of (fun vs H Q E h => ?_) (fun _ _ _ _ _ _ us hl => match us, hl with | [_, _], _ => rfl) (fun cdv A outer s H vs Q E hr h => ?_)
  · obtain ⟨b, l, xs, rfl, _⟩ := h
    rfl
  · obtain ⟨b, l, xs, rfl, hb, hl, hne, h0, h4, k⟩ := h
    have nd := c_law_of.nd
    refine ⟨_, (pss_one (ps_ret (pe_ix ix_list (pv 1) (pe_fn F_law_draw (hr.mono (by decide)) (pa_cons (pv 0) (pa_cons (pe_callB cr_len (by rfl) T.len (by decide +kernel) (pa_cons (pv 1) pa_nil)) pa_nil))) (fun _ _ => rfl)))), ?_⟩
    show (_ : TS) _ [some _, some _] _
    try dsimp only [cxOf, Cx.nox]
    walk_at "go"
    refine ⟨b, _, rfl, by omega, Int.lt_of_le_of_lt (by omega : (xs.length : Int) ≤ 4000) (by decide), hb, fun x H' x0 x1 hb' e => ?_⟩
    have hl' : SqL K H' l xs := lstX e hl (by simpa using fun z => hne z.symm)
    have hx : x.toNat < xs.length := by omega
    refine r_ixL hl' (v := xs[x.toNat]) ?_ (k x.toNat _ H' (List.getElem?_eq_getElem hx) hb' e)
    have e2 : x = ((x.toNat : Nat) : Int) := by omega
    exact at_of e2 (List.getElem?_eq_getElem hx)
end
end Yk

set_option maxHeartbeats 4000000
namespace Yk
open PySem PySem.Spec PyProof.Rows L2

section
variable {P : Program} {w : World} {K : PySem.W.Frag} {mg : Str → Option Value} {base : Heap} {f : Addr} {fd : FuncData}
theorem of_am {K : PySem.W.Frag} {H : Hp} {b : Bag} {l : Addr} {xs : List V} {qs : List Rat} {Q : VK} {E : XK} (hb : BagAt K H b) (hl : SqL K H l xs) (hne : b.a ≠ l) (ha : Ams K H xs qs) (h0 : 0 < qs.length) (h4 : qs.length ≤ 4000)
    (k : ∀ v q H', q ∈ qs → Am K H' v q → BagAt K H' b → Ext [b.a] H H' → Q v H') : spOf K [.ref b.a, .ref l] H Q E :=
  ⟨b, l, xs, rfl, hb, hl, hne, by rw [ha.1]; exact h0, by rw [ha.1]; exact h4, fun i x H' hx hb' e => by
    obtain ⟨q, hq, hm⟩ := ha.at_ hx
    exact k x q H' (List.mem_of_getElem? hq) (hm.b hb e) hb' e⟩
theorem mulp {i j a b : Int} (i0 : 0 ≤ i) (i1 : i < a) (j0 : 0 ≤ j) (j1 : j < b) (ha : a ≤ 2 ^ 400) (hb : b ≤ 2 ^ 400) : CMulW i j := by
  refine cmul (m := 401) (n := 401) ?_ ?_ (by decide) (by decide) (by decide)
  · have : (2 : Nat) ^ 400 < 2 ^ 401 := by decide
    have : ((2 : Nat) ^ 400 : Int) = 2 ^ 400 := by norm_cast
    omega
  · have : (2 : Nat) ^ 400 < 2 ^ 401 := by decide
    have : ((2 : Nat) ^ 400 : Int) = 2 ^ 400 := by norm_cast
    omega
theorem e10 : (10 : Int) ^ Int.toNat 10 = 10000000000 := by decide
theorem e4 : (10 : Int) ^ Int.toNat 4 = 10000 := by decide
theorem e9 : (10 : Int) ^ Int.toNat 9 = 1000000000 := by decide
def spGreat (K : PySem.W.Frag) : Sp := fun vs H Q _ => ∃ b, vs = [.ref b.a] ∧ BagAt K H b ∧ ∀ (x : Int) H', 0 ≤ x → x < 2 ^ 114 → BagAt K H' b → Ext [b.a] H H' → Q (.int x) H'
theorem pair_am {a b : Nat} {m : Nat} (ha : a < 2 ^ m) (hb : 0 < b) (hb2 : b < 2 ^ m) : Sz m (mkRat (a : Int) b) ∧ 0 ≤ mkRat (a : Int) b := ⟨sz_mk hb rfl (by simpa using ha) hb2, mk_nn a b⟩
def spAmt (K : PySem.W.Frag) : Sp := fun vs H Q _ => ∃ b, vs = [.ref b.a] ∧ BagAt K H b ∧ ∀ v q H', Am K H' v q → 0 ≤ q → Sz 114 q → BagAt K H' b → Ext [b.a] H H' → Q v H'
/-- a bit: a whole number of twelfths, at most 12 -/
def spBit (K : PySem.W.Frag) : Sp := fun vs H Q _ => ∃ b, vs = [.ref b.a] ∧ BagAt K H b ∧ ∀ v (n d : Nat) H', n ≤ 12 → 0 < d → d ∣ 12 → Am K H' v (mkRat (n : Int) d) → BagAt K H' b → Ext [b.a] H H' → Q v H'
abbrev s_law_bit : Stmt := top 43
theorem c_law_bit : FnScope ["_law_bag_here"] ["_law_bag_here"] (defScope s_law_bit) := ⟨rfl, rfl, rfl, by decide +kernel, rfl, by decide +kernel, by decide +kernel⟩
theorem f_law_bit (F : FunD K "_law_bit" "_law_bit" (defArgs s_law_bit) (defBody s_law_bit) (defScope s_law_bit) [] [] f fd) (hm : mg "_law_bit" = some (.ref f)) (F_law_draw : Fn P w K mg base 1 "_law_draw" (spDraw K)) (F_law_of : Fn P w K mg base 2 "_law_of" (spOf K)) (F_law_pair : Fn P w K mg base 1 "_law_pair" (spPair K)) : Fn P w K mg base 3 "_law_bit" (spBit K) := by
  refine fn_def F hm c_law_bit (fun vs H Q E h => ?_) (fun _ _ _ _ _ _ us hl => match us, hl with | [_], _ => rfl) (fun cdv A outer s H vs Q E hr h => ?_)
  · obtain ⟨b, rfl, _⟩ := h
    rfl
  · obtain ⟨b, rfl, hb, k⟩ := h
    have nd := c_law_bit.nd
    refine ⟨_, (pss_one (ps_ret (pe_fn F_law_pair (hr.mono (by decide)) (pa_cons (pe_fn F_law_draw (hr.mono (by decide)) (pa_cons (pv 0) (pa_cons pe_int pa_nil))) (pa_cons (pe_fn F_law_of (hr.mono (by decide)) (pa_cons (pv 0) (pa_cons (pe_lst (pa_cons pe_int (pa_cons pe_int (pa_cons pe_int (pa_cons pe_int (pa_cons pe_int (pa_cons pe_int (pa_cons pe_int pa_nil)))))))) pa_nil))) pa_nil))))), ?_⟩
    show (_ : TS) _ [some _] _
    try dsimp only [cxOf, Cx.nox]
    walk_at "go"
    refine ⟨b, _, rfl, by decide, by decide, hb, fun x1 H1 l1 u1 b1 n1 => ?_⟩
    walk_at "go"
    refine ⟨b, _, _, rfl, b1.new (by assumption), lstS, b1.ne (by assumption), by decide, by decide, fun i x H5 hx b5 e5 => ?_⟩
    have e15 : Ext [b.a] H H5 := (n1.new (by assumption)).trans e5
    have hd : ∃ d : Nat, x = .int (d : Int) ∧ 0 < d ∧ d < 2 ^ 114 ∧ d ∣ 12 := by
      match i, hx with
      | 0, hx => cases hx; exact ⟨1, rfl, by decide, by decide, by decide⟩
      | 1, hx => cases hx; exact ⟨1, rfl, by decide, by decide, by decide⟩
      | 2, hx => cases hx; exact ⟨2, rfl, by decide, by decide, by decide⟩
      | 3, hx => cases hx; exact ⟨3, rfl, by decide, by decide, by decide⟩
      | 4, hx => cases hx; exact ⟨1, rfl, by decide, by decide, by decide⟩
      | 5, hx => cases hx; exact ⟨4, rfl, by decide, by decide, by decide⟩
      | 6, hx => cases hx; exact ⟨12, rfl, by decide, by decide, by decide⟩
      | i + 7, hx => cases hx
    obtain ⟨d, rfl, d0, d1, d12⟩ := hd
    have ex : x1 = ((x1.toNat : Nat) : Int) := by omega
    rw [ex]
    have hx1 : x1.toNat < 2 ^ 114 := Nat.lt_of_lt_of_le (by omega : x1.toNat < 13) (by decide)
    refine ⟨x1.toNat, d, rfl, d0, Nat.lt_of_lt_of_le hx1 (Nat.pow_le_pow_right (by decide) (by decide)), Nat.lt_of_lt_of_le d1 (Nat.pow_le_pow_right (by decide) (by decide)), fun v H' e a => ?_⟩
    exact k v x1.toNat d H' (by omega) d0 d12 a (b5.x0 e) (e15.trans e.of0)
theorem spBit_amt {H : Hp} {b : Bag} {Q : VK} {E : XK} (hb : BagAt K H b) (k : ∀ v q H', Am K H' v q → 0 ≤ q → Sz 114 q → BagAt K H' b → Ext [b.a] H H' → Q v H') : spBit K [.ref b.a] H Q E :=
  ⟨b, rfl, hb, fun v n d H' hn d0 hd a b' e => by
    obtain ⟨z1, z2⟩ := pair_am (m := 114) (Nat.lt_of_le_of_lt hn (by decide)) d0 (Nat.lt_of_le_of_lt (Nat.le_of_dvd (by decide) hd) (by decide))
    exact k v _ H' a z2 z1 b' e⟩
theorem sz_lit {n : Int} {d m : Nat} (hd : d ≠ 0) (hc : n.natAbs.Coprime d) (h1 : n.natAbs < 2 ^ m) (h2 : d < 2 ^ m) : Sz m ⟨n, d, hd, hc⟩ := ⟨h1, h2⟩
theorem nn_lit {n : Int} {d : Nat} (hd : d ≠ 0) (hc : n.natAbs.Coprime d) (h : 0 ≤ n) : (0 : Rat) ≤ ⟨n, d, hd, hc⟩ := Rat.num_nonneg.mp h
def nine : List Rat := [⟨0, 1, by decide, by decide⟩, ⟨1, 1, by decide, by decide⟩, ⟨1000, 1, by decide, by decide⟩, ⟨1, 12, by decide, by decide⟩, ⟨999, 1, by decide, by decide⟩, ⟨1001, 1, by decide, by decide⟩, ⟨12001, 12, by decide, by decide⟩, ⟨1, 13, by decide, by decide⟩, ⟨2, 1, by decide, by decide⟩]
theorem nine_all : ∀ q ∈ nine, 0 ≤ q ∧ Sz 114 q := by
  intro q hq
  unfold nine at hq
  simp only [List.mem_cons, List.not_mem_nil, or_false] at hq
  rcases hq with rfl | rfl | rfl | rfl | rfl | rfl | rfl | rfl | rfl <;> exact ⟨nn_lit _ _ (by decide), sz_lit _ _ (by decide) (by decide)⟩
end
end Yk

set_option maxHeartbeats 4000000
namespace Yk
open PySem PySem.Spec PyProof.Rows L2

section
variable {P : Program} {w : World} {K : PySem.W.Frag} {mg : Str → Option Value} {base : Heap} {f : Addr} {fd : FuncData}
theorem perm_erase : ∀ {xs : List V} {i : Nat} (h : i < xs.length), (xs[i] :: xs.eraseIdx i).Perm xs
  | a :: r, 0, _ => List.Perm.refl _
  | a :: r, i + 1, h => ((List.Perm.swap a _ _)).trans ((perm_erase (xs := r) (i := i) (by simpa using h)).cons a)
/-- a new list with the same things -/
def spMixed (K : PySem.W.Frag) : Sp := fun vs H Q _ => ∃ (b : Bag) (l : Addr) (xs : List V), vs = [.ref b.a, .ref l] ∧ BagAt K H b ∧ SqL K H l xs ∧ b.a ≠ l ∧ xs.length ≤ 4000 ∧ ∀ (p : Addr) (ys : List V) H', ys.Perm xs → H p = none → H' p = some (.lst ys) → BagAt K H' b → Ext [b.a] H H' → Q (.ref p) H'
end
end Yk

set_option maxHeartbeats 4000000
namespace Yk
open PySem PySem.Spec PyProof.Rows L2

section
variable {P : Program} {w : World} {K : PySem.W.Frag} {mg : Str → Option Value} {base : Heap} {f : Addr} {fd : FuncData}
/-- two rows of one length, from three to six -/
theorem row_cases {C : List V → List Rat → Prop} {xs : List V} {qs : List Rat} (hl : xs.length = qs.length) (h3 : 3 ≤ qs.length) (h6 : qs.length ≤ 6)
    (c3 : ∀ v0 v1 v2 q0 q1 q2, C [v0, v1, v2] [q0, q1, q2]) (c4 : ∀ v0 v1 v2 v3 q0 q1 q2 q3, C [v0, v1, v2, v3] [q0, q1, q2, q3])
    (c5 : ∀ v0 v1 v2 v3 v4 q0 q1 q2 q3 q4, C [v0, v1, v2, v3, v4] [q0, q1, q2, q3, q4]) (c6 : ∀ v0 v1 v2 v3 v4 v5 q0 q1 q2 q3 q4 q5, C [v0, v1, v2, v3, v4, v5] [q0, q1, q2, q3, q4, q5]) : C xs qs := by
  match xs, qs, hl, h3, h6 with
  | [], qs, h, h3, _ => simp at h; omega
  | [_], qs, h, h3, _ => simp at h; omega
  | [_, _], qs, h, h3, _ => simp at h; omega
  | [v0, v1, v2], [q0, q1, q2], _, _, _ => exact c3 ..
  | [v0, v1, v2, v3], [q0, q1, q2, q3], _, _, _ => exact c4 ..
  | [v0, v1, v2, v3, v4], [q0, q1, q2, q3, q4], _, _, _ => exact c5 ..
  | [v0, v1, v2, v3, v4, v5], [q0, q1, q2, q3, q4, q5], _, _, _ => exact c6 ..
  | _ :: _ :: _ :: _ :: _ :: _ :: _ :: _, _ :: _ :: _ :: _ :: _ :: _ :: _ :: _, _, _, h => simp at h; try omega
def spSums (K : PySem.W.Frag) : Sp := fun vs H Q _ => ∃ r xs qs, vs = [V.ref r] ∧ SqL K H r xs ∧ Ams K H xs qs ∧ 3 ≤ qs.length ∧ qs.length ≤ 6 ∧ (∀ q ∈ qs, Sz 114 q) ∧ RetAm K H Q (sumQ qs)
def spEnds (K : PySem.W.Frag) : Sp := fun vs H Q _ => ∃ r xs q0 qs, vs = [V.ref r] ∧ SqL K H r xs ∧ Ams K H xs (q0 :: qs) ∧ 3 ≤ (q0 :: qs).length ∧ (q0 :: qs).length ≤ 6 ∧ (∀ q ∈ q0 :: qs, Sz 114 q) ∧
  ∀ p v1 v2 H', H p = none → H' p = some (.lst [v1, v2]) → Am K H' v1 (minQ q0 qs) → Am K H' v2 (maxQ q0 qs) → Ext [] H H' → Q (.ref p) H'
def endsK (K : PySem.W.Frag) (H : Hp) (Q : VK) (qs : List Rat) : Prop := ∀ p v1 v2 H', H p = none → H' p = some (.lst [v1, v2]) → Am K H' v1 (minQ (qs.headD 0) qs.tail) → Am K H' v2 (maxQ (qs.headD 0) qs.tail) → Ext [] H H' → Q (.ref p) H'
end
end Yk

set_option maxHeartbeats 4000000
namespace Yk
open PySem PySem.Spec PyProof.Rows L2

section
variable {P : Program} {w : World} {K : PySem.W.Frag} {mg : Str → Option Value} {base : Heap} {f : Addr} {fd : FuncData}
/-! rows by their sizes, in any order -/
inductive Szs : Nat → List Rat → Prop where
  | nil : Szs 0 []
  | cons {m B : Nat} {q : Rat} {ps : List Rat} (h : Sz m q) (r : Szs B ps) : Szs (B + (m + 1)) (q :: ps)
theorem Szs.perm {l l' : List Rat} (p : l.Perm l') : ∀ {B : Nat}, Szs B l → Szs B l' := by
  induction p with
  | nil => exact fun h => h
  | cons x _ ih =>
    intro B h
    cases h with
    | cons h r => exact .cons h (ih r)
  | swap x y l =>
    intro B h
    cases h with
    | cons h r =>
      cases r with
      | cons h2 r =>
        rename_i m1 m2 B2
        have := Szs.cons h2 (Szs.cons h r)
        rw [show B2 + (m2 + 1) + (m1 + 1) = B2 + (m1 + 1) + (m2 + 1) by omega]
        exact this
  | trans _ _ ih1 ih2 => exact fun h => ih2 (ih1 h)
theorem Szs.all : ∀ {l : List Rat} {m : Nat}, (∀ q ∈ l, Sz m q) → Szs (l.length * (m + 1)) l
  | [], m, _ => by simpa using Szs.nil
  | q :: r, m, h => by
    have := Szs.cons (h q List.mem_cons_self) (Szs.all (l := r) (m := m) fun x hx => h x (List.mem_cons_of_mem _ hx))
    rw [List.length_cons, Nat.add_mul, Nat.one_mul]
    exact this
def opR (g : Rat → Rat → Rat) (z : Rat) (l : List Rat) : Rat := l.foldr g z
theorem opR_perm {g : Rat → Rat → Rat} {z : Rat} (hg : ∀ a b c, g a (g b c) = g b (g a c)) {l l' : List Rat} (p : l.Perm l') : opR g z l = opR g z l' := by
  induction p with
  | nil => rfl
  | cons x _ ih => exact congrArg (g x) ih
  | swap x y l => exact hg _ _ _
  | trans _ _ h1 h2 => exact h1.trans h2
theorem sumQ_R (l : List Rat) : sumQ l = opR (· + ·) 0 l := by
  have h : ∀ (l : List Rat) (z : Rat), l.foldl (· + ·) z = z + opR (· + ·) 0 l := by
    intro l
    induction l with
    | nil => intro z; show z = z + 0; rw [Rat.add_zero]
    | cons a r ih =>
      intro z
      show r.foldl (· + ·) (z + a) = z + (a + opR (· + ·) 0 r)
      rw [ih, Rat.add_assoc]
  unfold sumQ
  rw [h, Rat.zero_add]
theorem sumQ_perm {l l' : List Rat} (p : l.Perm l') : sumQ l = sumQ l' := by
  rw [sumQ_R, sumQ_R]
  exact opR_perm (fun a b c => by rw [← Rat.add_assoc, Rat.add_comm a b, Rat.add_assoc]) p
def prodQ (qs : List Rat) : Rat := qs.foldl (· * ·) 1
theorem prodQ_R (l : List Rat) : prodQ l = opR (· * ·) 1 l := by
  have h : ∀ (l : List Rat) (z : Rat), l.foldl (· * ·) z = z * opR (· * ·) 1 l := by
    intro l
    induction l with
    | nil => intro z; show z = z * 1; rw [Rat.mul_one]
    | cons a r ih =>
      intro z
      show r.foldl (· * ·) (z * a) = z * (a * opR (· * ·) 1 r)
      rw [ih, Rat.mul_assoc]
  unfold prodQ
  rw [h, Rat.one_mul]
theorem Ams.erase {H : Hp} {xs : List V} {qs : List Rat} (h : Ams K H xs qs) (i : Nat) : Ams K H (xs.eraseIdx i) (qs.eraseIdx i) := by
  refine ⟨by rw [List.length_eraseIdx, List.length_eraseIdx, h.1], fun j v q a b => ?_⟩
  rw [List.getElem?_eraseIdx] at a b
  split at a
  · rename_i hj
    rw [if_pos hj] at b
    exact h.2 j v q a b
  · rename_i hj
    rw [if_neg hj] at b
    exact h.2 (j + 1) v q a b
theorem Ams.app {H : Hp} {xs ys : List V} {qs rs : List Rat} (h : Ams K H xs qs) (r : Ams K H ys rs) : Ams K H (xs ++ ys) (qs ++ rs) := by
  refine ⟨by rw [List.length_append, List.length_append, h.1, r.1], fun j v q a b => ?_⟩
  by_cases hj : j < xs.length
  · rw [List.getElem?_append_left hj] at a
    rw [List.getElem?_append_left (by rw [← h.1]; exact hj)] at b
    exact h.2 j v q a b
  · rw [List.getElem?_append_right (by omega)] at a
    rw [List.getElem?_append_right (by rw [← h.1]; omega), ← h.1] at b
    exact r.2 _ v q a b
theorem Ams.take {H : Hp} {xs : List V} {qs : List Rat} (h : Ams K H xs qs) (n : Nat) : Ams K H (xs.take n) (qs.take n) := by
  refine ⟨by rw [List.length_take, List.length_take, h.1], fun j v q a b => ?_⟩
  rw [List.getElem?_take] at a b
  split at a
  · rename_i hj
    rw [if_pos hj] at b
    exact h.2 j v q a b
  · cases a
theorem Ams.drop {H : Hp} {xs : List V} {qs : List Rat} (h : Ams K H xs qs) (n : Nat) : Ams K H (xs.drop n) (qs.drop n) := by
  refine ⟨by rw [List.length_drop, List.length_drop, h.1], fun j v q a b => ?_⟩
  rw [List.getElem?_drop] at a b
  exact h.2 _ v q a b
theorem permR : ∀ {xs : List Rat} {i : Nat} (h : i < xs.length), (xs[i] :: xs.eraseIdx i).Perm xs
  | a :: r, 0, _ => List.Perm.refl _
  | a :: r, i + 1, h => ((List.Perm.swap a _ _)).trans ((permR (xs := r) (i := i) (by simpa using h)).cons a)
theorem permI (xs : List Rat) (z : Rat) (k : Nat) : (xs.take k ++ [z] ++ xs.drop k).Perm (z :: xs) := by
  have h : (xs.take k ++ z :: xs.drop k).Perm (z :: (xs.take k ++ xs.drop k)) := List.perm_middle
  rw [List.take_append_drop] at h
  rw [List.append_assoc]
  exact h
/-- a pair put together: its value, its size -/
structure Join (g : Rat → Rat → Rat) (z : Rat) : Prop where
  swap : ∀ a b c, g a (g b c) = g b (g a c)
  assoc : ∀ a b c, g (g a b) c = g a (g b c)
  one : ∀ a, g a z = a
  sz : ∀ {m n : Nat} {a b : Rat}, Sz m a → Sz n b → Sz (m + n + 1) (g a b)
theorem join_add : Join (· + ·) 0 := ⟨fun a b c => by show a + (b + c) = b + (a + c); rw [← Rat.add_assoc, Rat.add_comm a b, Rat.add_assoc], fun a b c => Rat.add_assoc a b c, fun a => Rat.add_zero a, sz_add⟩
theorem join_mul : Join (· * ·) 1 := ⟨fun a b c => by show a * (b * c) = b * (a * c); rw [← Rat.mul_assoc, Rat.mul_comm a b, Rat.mul_assoc], fun a b c => Rat.mul_assoc a b c, fun a => Rat.mul_one a, fun h1 h2 => (sz_mul h1 h2).mono (by omega)⟩
theorem Join.two {g : Rat → Rat → Rat} {z : Rat} (J : Join g z) (a b : Rat) (l : List Rat) : opR g z (a :: b :: l) = opR g z (g a b :: l) := (J.assoc a b _).symm
theorem Join.sz2 {g : Rat → Rat → Rat} {z : Rat} (J : Join g z) {a b : Rat} {l : List Rat} {B : Nat} (h : Szs B (a :: b :: l)) : Szs B (g a b :: l) := by
  cases h with
  | cons h1 r =>
    cases r with
    | cons h2 r =>
      rename_i m1 m2 B2
      have := Szs.cons (J.sz h1 h2) r
      rw [show B2 + (m2 + 1) + (m1 + 1) = B2 + (m1 + m2 + 1 + 1) by omega]
      exact this
theorem Szs.hd {B : Nat} {a : Rat} {l : List Rat} (h : Szs B (a :: l)) : Sz B a := by
  cases h with
  | cons h1 r => exact h1.mono (by omega)
theorem Szs.tl {B : Nat} {a : Rat} {l : List Rat} (h : Szs B (a :: l)) : ∃ B', B' ≤ B ∧ Szs B' l := by
  cases h with
  | cons h1 r => exact ⟨_, by omega, r⟩
def gop (c : Bool) : Rat → Rat → Rat := if c then (· + ·) else (· * ·)
def gun (c : Bool) : Rat := if c then 0 else 1
theorem join_of (c : Bool) : Join (gop c) (gun c) := by
  cases c
  · exact join_mul
  · exact join_add
def spGrouped (K : PySem.W.Frag) : Sp := fun vs H Q _ => ∃ (b : Bag) (r : Addr) (c : Bool) (xs : List V) (qs : List Rat), vs = [.ref b.a, .ref r, .bl c] ∧ BagAt K H b ∧ SqL K H r xs ∧ b.a ≠ r ∧ Ams K H xs qs ∧ 1 ≤ qs.length ∧ qs.length ≤ 6 ∧ (∀ q ∈ qs, Sz 114 q) ∧
  ∀ v H', Am K H' v (opR (gop c) (gun c) qs) → BagAt K H' b → Ext [b.a] H H' → Q v H'
end
end Yk

set_option maxHeartbeats 4000000
namespace Yk
open PySem PySem.Spec PyProof.Rows L2

/-- the same data, so deep -/
inductive Eqd (K : PySem.W.Frag) (H : Hp) : Nat → V → V → Prop where
  | non (n : Nat) : Eqd K H n .non .non
  | bl (n : Nat) (b : Bool) : Eqd K H n (.bl b) (.bl b)
  | int (n : Nat) (i : Int) : Eqd K H n (.int i) (.int i)
  | str (n : Nat) (z : Str) : Eqd K H n (.str z) (.str z)
  | tup {n : Nat} {a b : Addr} {xs ys : List V} (ha : SqT K H a xs) (hb : SqT K H b ys) (hl : xs.length = ys.length) (h4 : xs.length ≤ 4000) (h : ∀ (i : Nat) (x y : V), xs[i]? = some x → ys[i]? = some y → Eqd K H n x y) : Eqd K H (n + 1) (.ref a) (.ref b)
  | lst {n : Nat} {a b : Addr} {xs ys : List V} (ha : SqL K H a xs) (hb : SqL K H b ys) (hl : xs.length = ys.length) (h4 : xs.length ≤ 4000) (h : ∀ (i : Nat) (x y : V), xs[i]? = some x → ys[i]? = some y → Eqd K H n x y) : Eqd K H (n + 1) (.ref a) (.ref b)
theorem Eqd.x0 {K : PySem.W.Frag} {H H1 : Hp} (e : Ext [] H H1) {n : Nat} {v w : V} (h : Eqd K H n v w) : Eqd K H1 n v w := by
  induction h with
  | non n => exact .non n
  | bl n b => exact .bl n b
  | int n i => exact .int n i
  | str n z => exact .str n z
  | tup ha hb hl h4 _ ih => exact .tup (tup0 e ha) (tup0 e hb) hl h4 ih
  | lst ha hb hl h4 _ ih => exact .lst (lst0 e ha) (lst0 e hb) hl h4 ih
theorem Am.eqd {K : PySem.W.Frag} {H : Hp} {v w : V} {q : Rat} (n : Nat) (h1 : Am K H v q) (h2 : Am K H w q) : Eqd K H (n + 1) v w := by
  obtain ⟨a, rfl, h1⟩ := h1
  obtain ⟨b, rfl, h2⟩ := h2
  refine .tup h1 h2 rfl (by simp) fun i x y hx hy => ?_
  rw [hx] at hy
  cases hy
  match i, hx with
  | 0, hx => cases hx; exact .int _ _
  | 1, hx => cases hx; exact .int _ _
  | i + 2, hx => cases hx
def spLike (K : PySem.W.Frag) : Nat → Sp
  | 0 => fun _ _ _ _ => False
  | n + 1 => fun vs H Q _ => ∃ v1 v2, vs = [v1, v2] ∧ Eqd K H n v1 v2 ∧ ∀ H', Ext [] H H' → Q (.bl true) H'
section
variable {P : Program} {w : World} {K : PySem.W.Frag} {mg : Str → Option Value} {base : Heap} {f : Addr} {fd : FuncData}
abbrev s_law_like : Stmt := top 33
theorem c_law_like : FnScope ["_law_told", "_law_due", "_law_a", "_law_b"] ["_law_told", "_law_due"] (defScope s_law_like) := ⟨rfl, rfl, rfl, by decide +kernel, rfl, by decide +kernel, by decide +kernel⟩
theorem f_law_like (F : FunD K "_law_like" "_law_like" (defArgs s_law_like) (defBody s_law_like) (defScope s_law_like) [] [] f fd) (hm : mg "_law_like" = some (.ref f)) (T : Bt mg) (n : Nat) (F_law_like : Fn P w K mg base n "_law_like" (spLike K n)) : Fn P w K mg base (n+1) "_law_like" (spLike K (n + 1)) := by
  refine fn_def F hm c_law_like (fun vs H Q E h => ?_) (fun _ _ _ _ _ _ us hl => match us, hl with | [_, _], _ => rfl) (fun cdv A outer s H vs Q E hr h => ?_)
  · obtain ⟨v1, v2, rfl, _⟩ := h
    rfl
  · obtain ⟨v1, v2, rfl, he, k⟩ := h
    have nd := c_law_like.nd
    refine ⟨_, (pss_cons (ps_if (pt_val (pe_callB call_isiT (by rfl) T.isinstance (by decide +kernel) (pa_cons (pv 1) (pa_cons (pe_tup (pa_cons (pe_bltn (v := .ty "list") (by rfl) T.list (by decide +kernel) rfl) (pa_cons (pe_bltn (v := .ty "tuple") (by rfl) T.tuple (by decide +kernel) rfl) pa_nil))) pa_nil))))
        (pss_cons (ps_if (PW.pt (pw_or (pt_cmpR op_ne (pe_callB call_isi (by rfl) T.isinstance (by decide +kernel) (pa_cons (pv 0) (pa_cons (pe_bltn (v := .ty "list") (by rfl) T.list (by decide +kernel) rfl) pa_nil))) (pe_callB call_isi (by rfl) T.isinstance (by decide +kernel) (pa_cons (pv 1) (pa_cons (pe_bltn (v := .ty "list") (by rfl) T.list (by decide +kernel) rfl) pa_nil))) (nomark _)) (pw_or1 (pt_cmpR op_ne (pe_callB call_isi (by rfl) T.isinstance (by decide +kernel) (pa_cons (pv 0) (pa_cons (pe_bltn (v := .ty "tuple") (by rfl) T.tuple (by decide +kernel) rfl) pa_nil))) (pe_callB call_isi (by rfl) T.isinstance (by decide +kernel) (pa_cons (pv 1) (pa_cons (pe_bltn (v := .ty "tuple") (by rfl) T.tuple (by decide +kernel) rfl) pa_nil))) (nomark _)))))
          (pss_one (ps_ret pe_bl))
          pss_nil)
        (pss_one (ps_ret (pe_and (pe_cmpR op_eq (pe_callB cr_len (by rfl) T.len (by decide +kernel) (pa_cons (pv 0) pa_nil)) (pe_callB cr_len (by rfl) T.len (by decide +kernel) (pa_cons (pv 1) pa_nil)) (nomark _)) (pe_one (pe_callB (cr_all rfl) (by rfl) T.all (by decide +kernel) (pa_cons (pe_lc (own := [("_law_a", 2), ("_law_b", 3)])  rfl nd (RZ.pi_zipA (by rfl) T.zip (pa_cons (pv 0) (pa_cons (pv 1) pa_nil))) (blkOk_by (N := ["_law_told", "_law_due", "_law_a", "_law_b"]) (sc := defScope s_law_like) (by decide +kernel)) (fun _ _ _ _ _ => (pg_tup (n := 2) rfl (pgs_cons (pg_name (i := 2) nd rfl (Or.inl rfl)) (pgs_cons (pg_name (i := 3) nd rfl (Or.inl rfl)) pgs_nil)) : PG _ _ (gTup K 2 _))) (fun _ _ _ _ _ => pts_nil) (fun _ _ _ _ _ => (pe_fn F_law_like (hr.mono (Nat.le_refl _)) (pa_cons (pv 2) (pa_cons (pv 3) pa_nil))))) pa_nil)))))))
        pss_nil)
      (pss_cons (ps_if (PW.pt (pw_or (pt_cmpR op_isN (pv 1) pe_non (nomark _)) (pw_or1 (pt_cmpR op_isN (pv 0) pe_non (nomark _)))))
        (pss_one (ps_ret (pe_and (pe_cmpR op_isN (pv 1) pe_non (nomark _)) (pe_one (pe_cmpR op_isN (pv 0) pe_non (nomark _))))))
        pss_nil)
      (pss_cons (ps_if (PW.pt (pw_or (pt_val (pe_callB call_isiT (by rfl) T.isinstance (by decide +kernel) (pa_cons (pv 0) (pa_cons (pe_tup (pa_cons (pe_bltn (v := .ty "list") (by rfl) T.list (by decide +kernel) rfl) (pa_cons (pe_bltn (v := .ty "tuple") (by rfl) T.tuple (by decide +kernel) rfl) pa_nil))) pa_nil)))) (pw_or1 (pt_cmpR op_ne (pe_callB call_isi (by rfl) T.isinstance (by decide +kernel) (pa_cons (pv 0) (pa_cons (pe_bltn (v := .ty "bool") (by rfl) T.bool (by decide +kernel) rfl) pa_nil))) (pe_callB call_isi (by rfl) T.isinstance (by decide +kernel) (pa_cons (pv 1) (pa_cons (pe_bltn (v := .ty "bool") (by rfl) T.bool (by decide +kernel) rfl) pa_nil))) (nomark _)))))
        (pss_one (ps_ret pe_bl))
        pss_nil)
      (pss_cons (ps_if (PW.pt (pw_or (pt_cmpR op_ne (pe_callB call_isi (by rfl) T.isinstance (by decide +kernel) (pa_cons (pv 0) (pa_cons (pe_bltn (v := .ty "str") (by rfl) T.str (by decide +kernel) rfl) pa_nil))) (pe_callB call_isi (by rfl) T.isinstance (by decide +kernel) (pa_cons (pv 1) (pa_cons (pe_bltn (v := .ty "str") (by rfl) T.str (by decide +kernel) rfl) pa_nil))) (nomark _)) (pw_or1 (pt_cmpR op_ne (pe_callB call_isi (by rfl) T.isinstance (by decide +kernel) (pa_cons (pv 0) (pa_cons (pe_bltn (v := .ty "int") (by rfl) T.int (by decide +kernel) rfl) pa_nil))) (pe_callB call_isi (by rfl) T.isinstance (by decide +kernel) (pa_cons (pv 1) (pa_cons (pe_bltn (v := .ty "int") (by rfl) T.int (by decide +kernel) rfl) pa_nil))) (nomark _)))))
        (pss_one (ps_ret pe_bl))
        pss_nil)
      (pss_one (ps_ret (pe_cmpR op_eq (pv 0) (pv 1) (nomark _)))))))), ?_⟩
    show (_ : TS) _ [some _, some _, none, none] _
    try dsimp only [cxOf, Cx.nox]
    cases he with
    | non n =>
      walk_at "run"
      exact k _ (by walk_at "ext")
    | bl n b =>
      walk_at "run"
      rw [decide_eq_true rfl]
      exact k _ (by walk_at "ext")
    | int n i =>
      walk_at "run"
      rw [decide_eq_true rfl]
      exact k _ (by walk_at "ext")
    | str n z =>
      walk_at "run"
      rw [decide_eq_true rfl]
      exact k _ (by walk_at "ext")
    | @tup n a b xs ys ha hb hl h4 h =>
      walk_at "run"
      refine r_true (len_is (by rw [hl])) ?_
      walk_at "run"
      refine ⟨a, b, xs, ys, rfl, .inr ⟨by walk_at "sq", by walk_at "sq", fun D hD => ?_⟩⟩
      generalize hH : upd H _ _ = H0 at *
      have e0 : Ext [] H H0 := by
        rw [← hH]
        walk_at "ext"
      refine r_lcZT hl (fun i H1 => Ext [] H0 H1 ∧ H1 D = some (.lst ((List.replicate i true).map V.bl))) ⟨Ext.refl.new hD, upd_same⟩ (fun i H1 p => ⟨tup0 (e0.trans p.1) ha, tup0 (e0.trans p.1) hb⟩) ?_ ?_
      · rintro i x y T H1 hx hy ⟨e1, hD1⟩ hT
        walk_at "run"
        refine ⟨rfl, ?_⟩
        walk_at "run"
        have hi : i < xs.length := (List.getElem?_eq_some_iff.mp hx).1
        have e2 : Ext [] H0 (upd H1 T (.tup [x, y])) := e1.new hT
        refine ⟨x, y, rfl, (h i x y hx hy).x0 (e0.trans e2), fun H2 e3 => ?_⟩
        have hD2 : H2 D = some (.lst ((List.replicate i true).map V.bl)) := e3 _ _ (by rw [upd_ne (ne_of_none hD1 hT)]; exact hD1) fun z => nomatch z
        refine ⟨_, hD2, ?_, (e2.trans e3).own hD, ?_⟩
        · rw [List.length_map, List.length_replicate]
          exact Nat.lt_of_le_of_lt (by omega : i ≤ 4000) (by decide)
        · rw [List.replicate_succ', List.map_append]
          exact upd_same
      · rintro H1 ⟨e1, hD1⟩
        walk_at "run"
        refine r_all (bs := List.replicate xs.length true) (.inl (.inl hD1)) ?_
        rw [show (List.replicate xs.length true).all id = true by simp]
        exact k _ (e0.trans e1)
    | @lst n a b xs ys ha hb hl h4 h =>
      walk_at "run"
      refine r_true (len_is (by rw [hl])) ?_
      walk_at "run"
      refine ⟨a, b, xs, ys, rfl, .inl ⟨by walk_at "sq", by walk_at "sq", fun D hD => ?_⟩⟩
      generalize hH : upd H _ _ = H0 at *
      have e0 : Ext [] H H0 := by
        rw [← hH]
        walk_at "ext"
      refine r_lcZL hl (fun i H1 => Ext [] H0 H1 ∧ H1 D = some (.lst ((List.replicate i true).map V.bl))) ⟨Ext.refl.new hD, upd_same⟩ (fun i H1 p => ⟨lst0 (e0.trans p.1) ha, lst0 (e0.trans p.1) hb⟩) ?_ ?_
      · rintro i x y T H1 hx hy ⟨e1, hD1⟩ hT
        walk_at "run"
        refine ⟨rfl, ?_⟩
        walk_at "run"
        have hi : i < xs.length := (List.getElem?_eq_some_iff.mp hx).1
        have e2 : Ext [] H0 (upd H1 T (.tup [x, y])) := e1.new hT
        refine ⟨x, y, rfl, (h i x y hx hy).x0 (e0.trans e2), fun H2 e3 => ?_⟩
        have hD2 : H2 D = some (.lst ((List.replicate i true).map V.bl)) := e3 _ _ (by rw [upd_ne (ne_of_none hD1 hT)]; exact hD1) fun z => nomatch z
        refine ⟨_, hD2, ?_, (e2.trans e3).own hD, ?_⟩
        · rw [List.length_map, List.length_replicate]
          exact Nat.lt_of_le_of_lt (by omega : i ≤ 4000) (by decide)
        · rw [List.replicate_succ', List.map_append]
          exact upd_same
      · rintro H1 ⟨e1, hD1⟩
        walk_at "run"
        refine r_all (bs := List.replicate xs.length true) (.inl (.inl hD1)) ?_
        rw [show (List.replicate xs.length true).all id = true by simp]
        exact k _ (e0.trans e1)
end
end Yk

set_option maxHeartbeats 4000000
namespace Yk
open PySem PySem.Spec PyProof.Rows L2 TL

section
variable {P : Program} {w : World} {K : PySem.W.Frag} {mg : Str → Option Value} {base : Heap} {f : Addr} {fd : FuncData}
def spNumText (K : PySem.W.Frag) : Sp := fun vs H Q _ => ∃ n : Nat, vs = [.int (n : Int)] ∧ n < 2 ^ 1900 ∧ ∀ H', Ext [] H H' → Q (.str (nt n)) H'
def spIsNum (K : PySem.W.Frag) : Sp := fun vs H Q _ => ∃ n : Int, vs = [.int n] ∧ Q (.bl true) H
def spIsAm (K : PySem.W.Frag) : Sp := fun vs H Q _ => ∃ (v : V) (q : Rat), vs = [v] ∧ Am K H v q ∧ 0 ≤ q ∧ Q (.bl true) H
end
end Yk

set_option maxHeartbeats 4000000
namespace Yk
open PySem PySem.Spec PyProof.Rows L2 TL

section
variable {σ : L2.St} {H : Hp} {Q : VK} {te : TE}
theorem r_js {t : TE} {ts : List TE} {acc : Str} {R : Str → Hp → Prop} (h : t σ H fun x H1 => ∃ y : Str, x = .str y ∧ (acc ++ y).length ≤ sizeLine ∧ tJs ts (acc ++ y) σ H1 R) : tJs (t :: ts) acc σ H R := h
theorem r_M1 {r : V → List V → Hp → VK → Prop} {to : TE} (h : to σ H fun x H1 => (∃ a, x = .str a) ∧ te σ H1 fun y H2 => r x [y] H2 Q) : tM1 r to te σ H Q := h
theorem r_jsN {acc : Str} {R : Str → Hp → Prop} (h : R acc H) : tJs [] acc σ H R := h
theorem r_fmt (h : te σ H fun x H1 => (∃ y : Str, x = .str y ∧ y.length ≤ sizeLine ∧ Q (.str y) H1) ∨ ∃ i : Int, x = .int i ∧ i.natAbs.log2 < 1920 ∧ Q (.str (toString i)) H1) : tFmt te σ H Q := h
theorem e_app (x : Str) : Str.empty ++ x = x := str_eq (by
  show (#[] ++ x.cps).toList = x.cps.toList
  simp)
theorem len_app (x y : Str) : (x ++ y).length = x.length + y.length := by
  show (x.cps ++ y.cps).size = _
  rw [Array.size_append]
  rfl
theorem ntl {n : Nat} (h : n < 2 ^ 1900) : (nt n).length ≤ 1900 := by rw [len_nt]; exact numL_le (by decide) (bits_lt h)
theorem ntl4 {n : Nat} (h : n < 2 ^ 1200) : (nt n).length ≤ 400 := by rw [len_nt]; exact numL_le (by decide) (Nat.lt_of_lt_of_le h (by decide +kernel))
end
section
variable {P : Program} {w : World} {K : PySem.W.Frag} {mg : Str → Option Value} {base : Heap} {f : Addr} {fd : FuncData}
def spReadNum (K : PySem.W.Frag) : Sp := fun vs H Q _ => ∃ (n : Nat) (m : Int), vs = [.str (nt n), .int m] ∧ (nt n).length ≤ 640 ∧ ((nt n).length : Int) ≤ m ∧ Q (.int (n : Int)) H
def spAmTxt (K : PySem.W.Frag) : Sp := fun vs H Q _ => ∃ v q, vs = [v] ∧ Am K H v q ∧ 0 ≤ q ∧ Sz 1900 q ∧ ∀ H', Ext [] H H' → Q (.str (amTxt q)) H'
def spReadAm (K : PySem.W.Frag) : Sp := fun vs H Q _ => ∃ q, vs = [.str (amTxt q)] ∧ 0 ≤ q ∧ Sz 1200 q ∧ RetAm K H Q q
end
end Yk

set_option maxHeartbeats 8000000
namespace Yk
open PySem PySem.Spec PyProof.Rows L2 TL

section
variable {P : Program} {w : World} {K : PySem.W.Frag} {mg : Str → Option Value} {base : Heap} {f : Addr} {fd : FuncData}
section
variable {H : Hp} {Q : VK} {E : XK} {v1 v2 v3 : V} {p q r : Rat} {m n : Nat}
theorem sumQ2 (p q : Rat) : sumQ [p, q] = p + q := by
  show 0 + p + q = p + q
  rw [Rat.zero_add]
theorem sumQ3 (p q r : Rat) : sumQ [p, q, r] = p + q + r := by
  show 0 + p + q + r = p + q + r
  rw [Rat.zero_add]
theorem k_plus2 (a1 : Am K H v1 p) (a2 : Am K H v2 q) (z1 : Sz 1900 p) (z2 : Sz 1900 q) (k : ∀ v H', Ext [] H H' → Am K H' v (p + q) → Q v H') : spPlus K [v1, v2] H Q E :=
  ⟨[p, q], 1900, Ams.cons a1 (Ams.cons a2 Ams.nil), fun x hx => by
    rcases List.mem_cons.mp hx with rfl | hx
    · exact z1
    · rw [List.mem_singleton.mp hx]; exact z2, by decide, by simp, fun v H' e a => k v H' e (by rw [sumQ2] at a; exact a)⟩
theorem k_plus3 (a1 : Am K H v1 p) (a2 : Am K H v2 q) (a3 : Am K H v3 r) (z1 : Sz 1300 p) (z2 : Sz 1300 q) (z3 : Sz 1300 r) (k : ∀ v H', Ext [] H H' → Am K H' v (p + q + r) → Q v H') : spPlus K [v1, v2, v3] H Q E :=
  ⟨[p, q, r], 1300, Ams.cons a1 (Ams.cons a2 (Ams.cons a3 Ams.nil)), fun x hx => by
    rcases List.mem_cons.mp hx with rfl | hx
    · exact z1
    · rcases List.mem_cons.mp hx with rfl | hx
      · exact z2
      · rw [List.mem_singleton.mp hx]; exact z3, by decide, by simp, fun v H' e a => k v H' e (by rw [sumQ3] at a; exact a)⟩
theorem k_times (a1 : Am K H v1 p) (a2 : Am K H v2 q) (z1 : Sz 4000 p) (z2 : Sz 4000 q) (k : ∀ v H', Ext [] H H' → Am K H' v (p * q) → Q v H') : spTimes K [v1, v2] H Q E := ⟨_, _, p, q, rfl, a1, a2, z1, z2, k⟩
theorem k_over (a1 : Am K H v1 p) (a2 : Am K H v2 q) (h : 0 < q) (z1 : Sz 4000 p) (z2 : Sz 4000 q) (k : ∀ v H', Ext [] H H' → Am K H' v (p / q) → Q v H') : spOver K [v1, v2] H Q E := ⟨_, _, p, q, rfl, a1, a2, h, z1, z2, k⟩
theorem k_minus (a1 : Am K H v1 p) (a2 : Am K H v2 q) (h : q ≤ p) (z1 : Sz 4000 p) (z2 : Sz 4000 q) (k : ∀ v H', Ext [] H H' → Am K H' v (p - q) → Q v H') : spMinus K [v1, v2] H Q E := ⟨_, _, p, q, rfl, a1, a2, h, z1, z2, k⟩
theorem k_cmp (a1 : Am K H v1 p) (a2 : Am K H v2 q) (z1 : Sz 4000 p) (z2 : Sz 4000 q) (k : Q (.int (cmpQ p q)) H) : spCompare K [v1, v2] H Q E := ⟨_, _, p, q, rfl, a1, a2, z1, z2, k⟩
theorem k_order (a1 : Am K H v1 p) (a2 : Am K H v2 q) (z1 : Sz 4000 p) (z2 : Sz 4000 q) (k : Q (.int (cmpQ p q)) H) : spOrder K [v1, v2] H Q E := ⟨_, _, p, q, rfl, a1, a2, z1, z2, k⟩
theorem k_two {ok : Rat → Rat → Prop} {F : Rat → Rat → Rat} (a1 : Am K H v1 p) (a2 : Am K H v2 q) (z1 : Sz 4000 p) (z2 : Sz 4000 q) (h1 : 0 ≤ p) (h2 : 0 ≤ q) (h3 : ok p q) (k : ∀ v H', Ext [] H H' → Am K H' v (F p q) → Q v H') : sp2 ok F K [v1, v2] H Q E := ⟨_, _, p, q, rfl, a1, a2, z1, z2, h1, h2, h3, k⟩
theorem ams_eqd {a b : Addr} {xs ys : List V} {qs : List Rat} (h1 : SqL K H a xs) (h2 : SqL K H b ys) (h3 : Ams K H xs qs) (h4 : Ams K H ys qs) (h5 : qs.length ≤ 4000) (n : Nat) : Eqd K H (n + 2) (.ref a) (.ref b) :=
  .lst h1 h2 (h3.1.trans h4.1.symm) (by rw [h3.1]; exact h5) fun i x y hx hy => by
    obtain ⟨q, hq, e1⟩ := h3.at_ hx
    exact e1.eqd n (h4.2 i y q hy hq)
theorem k_like {v w : V} {n : Nat} (h : Eqd K H n v w) (k : ∀ H', Ext [] H H' → Q (.bl true) H') : spLike K (n + 1) [v, w] H Q E := ⟨v, w, rfl, h, k⟩
theorem ints_eqd {a b : Addr} {ns : List Int} (h1 : SqL K H a (ns.map V.int)) (h2 : SqL K H b (ns.map V.int)) (h : ns.length ≤ 4000) (n : Nat) : Eqd K H (n + 1) (.ref a) (.ref b) :=
  .lst h1 h2 rfl (by rw [List.length_map]; exact h) fun i x y hx hy => by
    rw [hx] at hy
    cases hy
    rw [List.getElem?_map] at hx
    cases e : ns[i]? with
    | none => rw [e] at hx; cases hx
    | some z => rw [e] at hx; cases hx; exact .int _ _
theorem cmpQ_eq (p q : Rat) : cmpQ p q = cmpQ' p q := rfl
end
def spThree (K : PySem.W.Frag) : Sp := fun vs H Q _ => ∃ v1 v2 v3 p q r, vs = [v1, v2, v3] ∧ Am K H v1 p ∧ Am K H v2 q ∧ Am K H v3 r ∧ 0 ≤ p ∧ 0 ≤ q ∧ 0 ≤ r ∧ Sz 114 p ∧ Sz 114 q ∧ Sz 114 r ∧ ∀ H', Ext [] H H' → Q (.bl true) H'
end
end Yk

set_option maxHeartbeats 8000000
namespace Yk
open PySem PySem.Spec PyProof.Rows L2 TL

section
variable {P : Program} {w : World} {K : PySem.W.Frag} {mg : Str → Option Value} {base : Heap} {f : Addr} {fd : FuncData}
/-! the row of a turn -/
theorem Am.b2 {H H1 : Hp} {b : Bag} {v : V} {q : Rat} (e : Ext [b.a] H H1) (hb : BagAt K H b) (h : Am K H v q) : Am K H1 v q := h.b hb e
def Good (qs : List Rat) : Prop := 3 ≤ qs.length ∧ qs.length ≤ 6 ∧ ∀ q ∈ qs, 0 ≤ q ∧ Sz 114 q
structure RowAt (K : PySem.W.Frag) (H0 H : Hp) (b : Bag) (row : Addr) (xs : List V) (qs : List Rat) : Prop where
  at_ : H row = some (.lst xs)
  ams : Ams K H xs qs
  good : Good qs
  bag : BagAt K H b
  new : H0 row = none
  bag0 : BagAt K H0 b
  ext : Ext [b.a] H0 H
theorem RowAt.ne {H0 H : Hp} {b : Bag} {row : Addr} {xs : List V} {qs : List Rat} (R : RowAt K H0 H b row xs qs) : row ≠ b.a := fun z => R.bag0.ne R.new z.symm
theorem RowAt.x0 {H0 H H1 : Hp} {b : Bag} {row : Addr} {xs : List V} {qs : List Rat} (e : Ext [] H H1) (R : RowAt K H0 H b row xs qs) : RowAt K H0 H1 b row xs qs :=
  ⟨e _ _ R.at_ (fun z => nomatch z), R.ams.x0 e, R.good, R.bag.x0 e, R.new, R.bag0, R.ext.trans e.of0⟩
theorem RowAt.b {H0 H H1 : Hp} {b : Bag} {row : Addr} {xs : List V} {qs : List Rat} (e : Ext [b.a] H H1) (hb : BagAt K H1 b) (R : RowAt K H0 H b row xs qs) : RowAt K H0 H1 b row xs qs :=
  ⟨e _ _ R.at_ (by simpa using R.ne), R.ams.b R.bag e, R.good, hb, R.new, R.bag0, R.ext.trans e⟩
theorem RowAt.sq {H0 H : Hp} {b : Bag} {row : Addr} {xs : List V} {qs : List Rat} (R : RowAt K H0 H b row xs qs) : SqL K H row xs := .inl (.inl R.at_)
theorem Ams.set {H : Hp} {xs : List V} {qs : List Rat} (h : Ams K H xs qs) {j : Nat} {v : V} {q : Rat} (hv : Am K H v q) : Ams K H (xs.set j v) (qs.set j q) := by
  refine ⟨by rw [List.length_set, List.length_set, h.1], fun i x y a b => ?_⟩
  by_cases hj : j = i
  · subst hj
    rw [List.getElem?_set_self'] at a b
    cases ex : xs[j]? with
    | none => rw [ex] at a; cases a
    | some x0 =>
      cases eq : qs[j]? with
      | none => rw [eq] at b; cases b
      | some q0 =>
        rw [ex] at a
        rw [eq] at b
        cases a
        cases b
        exact hv
  · rw [List.getElem?_set_ne hj] at a b
    exact h.2 i x y a b
theorem lmax_eq (m q : Rat) : lmax m q = if m < q then q else m := by
  unfold lmax
  by_cases h1 : q < m
  · rw [if_pos h1, if_neg (by grind)]
  · rw [if_neg h1]
    by_cases h2 : m < q
    · rw [if_pos h2]
    · rw [if_neg h2]; grind
theorem minQ_spec : ∀ (qs : List Rat) (p : Rat), minQ p qs ∈ p :: qs ∧ ∀ x ∈ p :: qs, minQ p qs ≤ x
  | [], p => ⟨List.mem_cons_self, fun x hx => by rw [List.mem_singleton.mp hx]; exact Rat.le_refl⟩
  | q :: r, p => by
    obtain ⟨h1, h2⟩ := minQ_spec r (if q < p then q else p)
    have e : minQ p (q :: r) = minQ (if q < p then q else p) r := rfl
    rw [e]
    have h3 := h2 _ List.mem_cons_self
    refine ⟨?_, fun x hx => ?_⟩
    · rcases List.mem_cons.mp h1 with h | h
      · rw [h]; split <;> simp
      · exact List.mem_cons_of_mem _ (List.mem_cons_of_mem _ h)
    · rcases List.mem_cons.mp hx with rfl | hx
      · refine Rat.le_trans h3 ?_
        split
        · grind
        · exact Rat.le_refl
      · rcases List.mem_cons.mp hx with rfl | hx
        · refine Rat.le_trans h3 ?_
          split
          · exact Rat.le_refl
          · grind
        · exact h2 x (List.mem_cons_of_mem _ hx)
theorem maxQ_spec : ∀ (qs : List Rat) (p : Rat), maxQ p qs ∈ p :: qs ∧ ∀ x ∈ p :: qs, x ≤ maxQ p qs
  | [], p => ⟨List.mem_cons_self, fun x hx => by rw [List.mem_singleton.mp hx]; exact Rat.le_refl⟩
  | q :: r, p => by
    obtain ⟨h1, h2⟩ := maxQ_spec r (if p < q then q else p)
    have e : maxQ p (q :: r) = maxQ (if p < q then q else p) r := rfl
    rw [e]
    have h3 := h2 _ List.mem_cons_self
    refine ⟨?_, fun x hx => ?_⟩
    · rcases List.mem_cons.mp h1 with h | h
      · rw [h]; split <;> simp
      · exact List.mem_cons_of_mem _ (List.mem_cons_of_mem _ h)
    · rcases List.mem_cons.mp hx with rfl | hx
      · refine Rat.le_trans ?_ h3
        split
        · grind
        · exact Rat.le_refl
      · rcases List.mem_cons.mp hx with rfl | hx
        · refine Rat.le_trans ?_ h3
          split
          · exact Rat.le_refl
          · grind
        · exact h2 x (List.mem_cons_of_mem _ hx)
theorem minQ_perm {p q : Rat} {l m : List Rat} (h : (p :: l).Perm (q :: m)) : minQ p l = minQ q m := by
  obtain ⟨a1, a2⟩ := minQ_spec l p
  obtain ⟨b1, b2⟩ := minQ_spec m q
  exact Rat.le_antisymm (a2 _ (h.symm.subset b1)) (b2 _ (h.subset a1))
theorem maxQ_perm {p q : Rat} {l m : List Rat} (h : (p :: l).Perm (q :: m)) : maxQ p l = maxQ q m := by
  obtain ⟨a1, a2⟩ := maxQ_spec l p
  obtain ⟨b1, b2⟩ := maxQ_spec m q
  exact Rat.le_antisymm (b2 _ (h.subset a1)) (a2 _ (h.symm.subset b1))
theorem foldl_lmin (q : Rat) (l : List Rat) : (q :: l).foldl lmin q = minQ q l := by
  show l.foldl lmin (lmin q q) = minQ q l
  have e : lmin q q = q := by unfold lmin; split <;> rfl
  rw [e]
  rfl
theorem foldl_lmax (q : Rat) (l : List Rat) : (q :: l).foldl lmax q = maxQ q l := by
  show l.foldl lmax (lmax q q) = maxQ q l
  have e : lmax q q = q := by unfold lmax; split <;> rfl
  rw [e]
  have h : ∀ (l : List Rat) (z : Rat), l.foldl lmax z = l.foldl (fun m q => if m < q then q else m) z := by
    intro l
    induction l with
    | nil => intro z; rfl
    | cons a r ih =>
      intro z
      show r.foldl lmax (lmax z a) = r.foldl _ (if z < a then a else z)
      rw [lmax_eq, ih]
  exact h l q
/-- from the same things in another order, the same row -/
theorem ams_perm {H : Hp} {xs ys : List V} (p : ys.Perm xs) : ∀ {qs : List Rat}, Ams K H xs qs → ∃ rs, Ams K H ys rs ∧ rs.Perm qs := by
  induction p with
  | nil => exact fun {qs} h => ⟨qs, h, List.Perm.refl _⟩
  | cons x _ ih =>
    intro qs h
    cases qs with
    | nil => exact absurd h.1 (by simp)
    | cons q r =>
      have h1 : Ams K H _ r := ⟨by simpa using h.1, fun i v u a b => h.2 (i + 1) v u (by simpa using a) (by simpa using b)⟩
      obtain ⟨rs, a, b⟩ := ih h1
      exact ⟨q :: rs, Ams.cons (h.2 0 x q rfl rfl) a, b.cons q⟩
  | swap x y l =>
    intro qs h
    match qs, h with
    | [], h => exact absurd h.1 (by simp)
    | [_], h => exact absurd h.1 (by simp)
    | q1 :: q2 :: r, h =>
      have h1 : Ams K H l r := ⟨by simpa using h.1, fun i v u a b => h.2 (i + 2) v u (by simpa using a) (by simpa using b)⟩
      exact ⟨q2 :: q1 :: r, Ams.cons (h.2 1 _ q2 rfl rfl) (Ams.cons (h.2 0 _ q1 rfl rfl) h1), List.Perm.swap q1 q2 r⟩
  | trans _ _ ih1 ih2 =>
    intro qs h
    obtain ⟨rs, a, b⟩ := ih2 h
    obtain ⟨ts, c, d⟩ := ih1 a
    exact ⟨ts, c, d.trans b⟩
theorem Good.perm {qs rs : List Rat} (g : Good qs) (p : rs.Perm qs) : Good rs := ⟨by rw [p.length_eq]; exact g.1, by rw [p.length_eq]; exact g.2.1, fun q hq => g.2.2 q (p.subset hq)⟩
theorem k_amt {H : Hp} {b : Bag} {Q : VK} {E : XK} (hb : BagAt K H b) (k : ∀ v q H', Am K H' v q → 0 ≤ q → Sz 114 q → BagAt K H' b → Ext [b.a] H H' → Q v H') : spAmt K [.ref b.a] H Q E := ⟨b, rfl, hb, k⟩
theorem k_draw {H : Hp} {b : Bag} {n : Int} {Q : VK} {E : XK} (hb : BagAt K H b) (h0 : 0 < n) (h1 : n < 2 ^ 400) (k : ∀ (x : Int) H', 0 ≤ x → x < n → BagAt K H' b → Ext [b.a] H H' → Q (.int x) H') : spDraw K [.ref b.a, .int n] H Q E := ⟨b, n, rfl, h0, h1, hb, k⟩
end
end Yk

set_option maxHeartbeats 4000000
namespace Yk
structure Row where
  man : Option (Rat × Rat)
  w : Nat
  b : Rat
def shq (man : Option (Rat × Rat)) (w : Nat) (x : Rat) : Rat := match man with
  | none => 0
  | some (l, m) => lmax l (lmin m ((w : Rat) * x))
def Row.at_ (r : Row) (x : Rat) : Rat := shq r.man r.w (lmin x r.b)
def tot (rows : List Row) (x : Rat) : Rat := sumQ (rows.map fun r => r.at_ x)
theorem sumQ_cons (q : Rat) (l : List Rat) : sumQ (q :: l) = q + sumQ l := by
  have h : ∀ (l : List Rat) (z : Rat), l.foldl (· + ·) z = z + sumQ l := by
    intro l
    induction l with
    | nil => intro z; show z = z + 0; rw [Rat.add_zero]
    | cons a r ih =>
      intro z
      show r.foldl (· + ·) (z + a) = z + sumQ (a :: r)
      have e : sumQ (a :: r) = a + sumQ r := by
        show r.foldl (· + ·) (0 + a) = _
        rw [ih, Rat.zero_add]
      rw [ih, e, Rat.add_assoc]
  show l.foldl (· + ·) (0 + q) = _
  rw [h, Rat.zero_add]
theorem lmin_le1 (p q : Rat) : lmin p q ≤ p := by unfold lmin; split <;> grind
theorem lmin_le2 (p q : Rat) : lmin p q ≤ q := by unfold lmin; split <;> grind
theorem lmin_mono {p q r : Rat} (h : p ≤ q) : lmin p r ≤ lmin q r := by unfold lmin; split <;> split <;> grind
theorem wmono {w : Nat} {x y : Rat} (h : x ≤ y) : (w : Rat) * x ≤ (w : Rat) * y := Rat.mul_le_mul_of_nonneg_left h (by exact_mod_cast Nat.zero_le w)
theorem shq_mono {man : Option (Rat × Rat)} {w : Nat} {x y : Rat} (h : x ≤ y) : shq man w x ≤ shq man w y := by
  cases man with
  | none => exact Rat.le_refl
  | some p =>
    obtain ⟨l, m⟩ := p
    have h2 := wmono (w := w) h
    show lmax l (lmin m _) ≤ lmax l (lmin m _)
    generalize (w : Rat) * x = a at h2
    generalize (w : Rat) * y = b at h2
    unfold lmax lmin
    grind
theorem Row.mono (r : Row) {x y : Rat} (h : x ≤ y) : r.at_ x ≤ r.at_ y := shq_mono (lmin_mono h)
theorem tot_cons (r : Row) (rows : List Row) (x : Rat) : tot (r :: rows) x = r.at_ x + tot rows x := sumQ_cons _ _
theorem tot_mono (rows : List Row) {x y : Rat} (h : x ≤ y) : tot rows x ≤ tot rows y := by
  induction rows with
  | nil => exact Rat.le_refl
  | cons r rows ih =>
    rw [tot_cons, tot_cons]
    have := r.mono h
    grind
/-- linear between l and u -/
def Lin (T : Rat → Rat) (l u : Rat) : Prop := ∀ z, l ≤ z → z ≤ u → (T z - T l) * (u - l) = (T u - T l) * (z - l)
theorem Lin.const {T : Rat → Rat} {l u c : Rat} (hu : l ≤ u) (h : ∀ z, l ≤ z → z ≤ u → T z = c) : Lin T l u := fun z h1 h2 => by
  rw [h z h1 h2, h l Rat.le_refl hu, h u hu Rat.le_refl]
  grind
theorem Lin.line {T : Rat → Rat} {l u c : Rat} (hu : l ≤ u) (h : ∀ z, l ≤ z → z ≤ u → T z = c * z) : Lin T l u := fun z h1 h2 => by
  rw [h z h1 h2, h l Rat.le_refl hu, h u hu Rat.le_refl]
  grind
theorem Lin.add {T S : Rat → Rat} {l u : Rat} (h1 : Lin T l u) (h2 : Lin S l u) : Lin (fun z => T z + S z) l u := fun z a b => by
  have := h1 z a b
  have := h2 z a b
  dsimp only
  grind
def Row.brk (r : Row) : List Rat := match r.man with
  | none => [r.b]
  | some (l, m) => [l / (r.w : Rat), m / (r.w : Rat), r.b]
theorem Row.lin (r : Row) (hw : 0 < r.w) {l u : Rat} (hlu : l ≤ u) (h : r.man ≠ none → ∀ p ∈ r.brk, p ≤ l ∨ u ≤ p) : Lin r.at_ l u := by
  obtain ⟨man, w, b⟩ := r
  cases man with
  | none => exact Lin.const hlu (c := 0) fun z _ _ => rfl
  | some p =>
    obtain ⟨s, m⟩ := p
    have h := h (by simp)
    have hs := h (s / (w : Rat)) (by simp [Row.brk])
    have hm := h (m / (w : Rat)) (by simp [Row.brk])
    have hb := h b (by simp [Row.brk])
    have w0 : (0 : Rat) < (w : Rat) := by exact_mod_cast hw
    have es : (w : Rat) * (s / (w : Rat)) = s := by grind
    have em : (w : Rat) * (m / (w : Rat)) = m := by grind
    generalize s / (w : Rat) = s' at *
    generalize m / (w : Rat) = m' at *
    subst es em
    have k : ∀ z : Rat, ({ man := some ((w : Rat) * s', (w : Rat) * m'), w := w, b := b } : Row).at_ z = lmax ((w : Rat) * s') (lmin ((w : Rat) * m') ((w : Rat) * lmin z b)) := fun z => rfl
    have c1 : ∀ x y : Rat, x ≤ y → lmin ((w : Rat) * y) ((w : Rat) * x) = (w : Rat) * x := fun x y hxy => by have := wmono (w := w) hxy; unfold lmin; grind
    have c2 : ∀ x y : Rat, x ≤ y → lmin ((w : Rat) * x) ((w : Rat) * y) = (w : Rat) * x := fun x y hxy => by have := wmono (w := w) hxy; unfold lmin; grind
    have d1 : ∀ x y : Rat, x ≤ y → lmax ((w : Rat) * y) ((w : Rat) * x) = (w : Rat) * y := fun x y hxy => by have := wmono (w := w) hxy; unfold lmax; grind
    have d2 : ∀ x y : Rat, x ≤ y → lmax ((w : Rat) * x) ((w : Rat) * y) = (w : Rat) * y := fun x y hxy => by have := wmono (w := w) hxy; unfold lmax; grind
    rcases hb with hb | hb
    · refine Lin.const hlu (c := lmax ((w : Rat) * s') (lmin ((w : Rat) * m') ((w : Rat) * b))) fun z h1 h2 => ?_
      rw [k, show lmin z b = b by unfold lmin; grind]
    · have kz : ∀ z : Rat, z ≤ u → lmin z b = z := fun z h2 => by unfold lmin; grind
      rcases hm with hm | hm
      · refine Lin.const hlu (c := lmax ((w : Rat) * s') ((w : Rat) * m')) fun z h1 h2 => ?_
        rw [k, kz z h2, c2 _ _ (by grind)]
      · rcases hs with hs | hs
        · refine Lin.line hlu (c := (w : Rat)) fun z h1 h2 => ?_
          rw [k, kz z h2, c1 _ _ (by grind), d2 _ _ (by grind)]
        · refine Lin.const hlu (c := (w : Rat) * s') fun z h1 h2 => ?_
          rw [k, kz z h2, c1 _ _ (by grind), d1 _ _ (by grind)]
theorem lin_tot (rows : List Row) (hw : ∀ r ∈ rows, 0 < r.w) {l u : Rat} (hlu : l ≤ u) (h : ∀ r ∈ rows, r.man ≠ none → ∀ p ∈ r.brk, p ≤ l ∨ u ≤ p) : Lin (tot rows) l u := by
  induction rows with
  | nil => exact Lin.const hlu (c := 0) fun z _ _ => rfl
  | cons r rows ih =>
    have e : tot (r :: rows) = fun x => r.at_ x + tot rows x := funext fun x => tot_cons r rows x
    rw [e]
    exact (r.lin (hw r List.mem_cons_self) hlu (h r List.mem_cons_self)).add (ih (fun r hr => hw r (List.mem_cons_of_mem _ hr)) fun r hr => h r (List.mem_cons_of_mem _ hr))
theorem le_cases {x y : Rat} (h : x ≤ y) : x < y ∨ x = y := by grind
theorem nlt {x y : Rat} (h : x < y → False) : y ≤ x := Rat.not_lt.mp h
/-- the level: the least height at which the goal is reached, else the top -/
structure IsLev (T : Rat → Rat) (top goal y : Rat) : Prop where
  nn : 0 ≤ y
  le : y ≤ top
  lo : ∀ z, 0 ≤ z → z < y → T z < goal
  hi : goal ≤ T y ∨ y = top
theorem IsLev.le_of {T : Rat → Rat} {top goal y z : Rat} (a : IsLev T top goal y) (b : IsLev T top goal z) : z ≤ y := nlt fun h => by
  have := b.lo y a.nn h
  rcases a.hi with e | e
  · grind
  · have := b.le; grind
theorem IsLev.uniq {T : Rat → Rat} {top goal y z : Rat} (a : IsLev T top goal y) (b : IsLev T top goal z) : y = z := Rat.le_antisymm (b.le_of a) (a.le_of b)
/-- on a line -/
def onl (T : Rat → Rat) (goal l u : Rat) : Rat := l + (goal - T l) * (u - l) / (T u - T l)
theorem lev_line {T : Rat → Rat} {top goal l u : Rat} (mono : ∀ x y, x ≤ y → T x ≤ T y) (h0 : 0 ≤ l) (hlu : l ≤ u) (hu : u ≤ top) (hl : Lin T l u) (g1 : T l < goal) (g2 : goal ≤ T u) : IsLev T top goal (onl T goal l u) ∧ l < onl T goal l u ∧ onl T goal l u ≤ u ∧ T (onl T goal l u) = goal := by
  have lu : l < u := by
    rcases le_cases hlu with h | h
    · exact h
    · subst h; grind
  have d0 : 0 < T u - T l := by grind
  have e0 : 0 < u - l := by grind
  obtain ⟨y, hy⟩ : ∃ y, y = onl T goal l u := ⟨_, rfl⟩
  rw [← hy]
  have ey : (y - l) * (T u - T l) = (goal - T l) * (u - l) := by
    rw [hy]
    unfold onl
    grind
  have y1 : l < y := by
    have h1 : 0 < (y - l) * (T u - T l) := by rw [ey]; exact Rat.mul_pos (by grind) e0
    refine Rat.not_le.mp fun h => ?_
    have h2 : 0 ≤ (l - y) * (T u - T l) := Rat.mul_nonneg (by grind) (by grind)
    grind
  have y2 : y ≤ u := by
    refine Rat.not_lt.mp fun h => ?_
    have h1 : 0 < (y - u) * (T u - T l) := Rat.mul_pos (by grind) d0
    have h2 : 0 ≤ (T u - goal) * (u - l) := Rat.mul_nonneg (by grind) (by grind)
    grind
  have ty : T y = goal := by
    have h1 := hl y (by grind) y2
    have h2 : (T y - goal) * (u - l) = 0 := by grind
    rcases Rat.mul_eq_zero.mp h2 with h | h <;> grind
  refine ⟨⟨by grind, by grind, fun z z0 zy => ?_, .inl (by rw [ty]; exact Rat.le_refl)⟩, y1, y2, ty⟩
  rcases (Rat.le_total : z ≤ l ∨ l ≤ z) with h | h
  · have := mono z l h; grind
  · have h1 := hl z h (by grind)
    have h2 := hl y (by grind) y2
    have h3 : (T y - T z) * (u - l) = (T u - T l) * (y - z) := by grind
    have h4 : 0 < (T u - T l) * (y - z) := Rat.mul_pos d0 (by grind)
    refine Rat.not_le.mp fun h5 => ?_
    have h6 : 0 ≤ (T z - T y) * (u - l) := Rat.mul_nonneg (by grind) (by grind)
    grind
theorem lev_zero {T : Rat → Rat} {top goal : Rat} (h : 0 ≤ top) (g : goal ≤ T 0) : IsLev T top goal 0 := ⟨Rat.le_refl, h, fun z a b => by grind, .inl g⟩
theorem lev_top {T : Rat → Rat} {top goal : Rat} (mono : ∀ x y, x ≤ y → T x ≤ T y) (h : 0 ≤ top) (g : T top < goal) : IsLev T top goal top := ⟨h, Rat.le_refl, fun z a b => by have := mono z top (by grind); grind, .inr rfl⟩
/-- not below 0, at most M, a multiple of the D-th part of 1 -/
structure In (D M : Nat) (q : Rat) : Prop where
  nn : 0 ≤ q
  le : q ≤ (M : Rat)
  ex : ∃ n : Int, q * (D : Rat) = (n : Rat)
theorem natQ {a b : Nat} (h : a ≤ b) : (a : Rat) ≤ (b : Rat) := by exact_mod_cast h
theorem natP {a : Nat} (h : 0 < a) : (0 : Rat) < (a : Rat) := by exact_mod_cast h
theorem In.sz {D M j k : Nat} {q : Rat} (h : In D M q) (h0 : 0 < D) (hD : D ≤ 2 ^ j) (hM : M ≤ 2 ^ k) : Sz (j + k + 1) q := by
  obtain ⟨n, e⟩ := h.ex
  have d0 := natP h0
  have eq : q = mkRat n D := by
    rw [Rat.mkRat_eq_div]
    grind
  have n0 : 0 ≤ n := by
    have h1 : (0 : Rat) ≤ q * (D : Rat) := Rat.mul_nonneg h.nn (by grind)
    rw [e] at h1
    exact_mod_cast h1
  have n1 : n ≤ (M * D : Nat) := by
    have h1 : q * (D : Rat) ≤ (M : Rat) * (D : Rat) := Rat.mul_le_mul_of_nonneg_right h.le (by grind)
    rw [e] at h1
    have h2 : ((n : Int) : Rat) ≤ (((M * D : Nat) : Int) : Rat) := by push_cast; exact h1
    exact_mod_cast h2
  have hh : M * D ≤ 2 ^ (j + k) := by rw [Nat.add_comm, Nat.pow_add]; exact Nat.mul_le_mul hM hD
  have h2 : 2 ^ (j + k) < 2 ^ (j + k + 1) := Nat.pow_lt_pow_succ (by decide)
  have h3 : 2 ^ j ≤ 2 ^ (j + k) := Nat.pow_le_pow_right (by decide) (by omega)
  refine sz_mk h0 eq ?_ ?_
  · omega
  · omega
theorem In.up {D D' M : Nat} {q : Rat} (h : In D M q) (hd : D ∣ D') : In D' M q := by
  obtain ⟨n, e⟩ := h.ex
  obtain ⟨c, rfl⟩ := hd
  refine ⟨h.nn, h.le, n * (c : Int), ?_⟩
  push_cast
  grind
theorem In.most {D M M' : Nat} {q : Rat} (h : In D M q) (hm : M ≤ M') : In D M' q := ⟨h.nn, Rat.le_trans h.le (natQ hm), h.ex⟩
theorem In.of_le {D M M' : Nat} {q : Rat} (h : In D M q) (hm : q ≤ (M' : Rat)) : In D M' q := ⟨h.nn, hm, h.ex⟩
theorem In.zero {D M : Nat} : In D M 0 := ⟨Rat.le_refl, natQ (Nat.zero_le M), 0, by norm_cast; grind⟩
theorem In.nat {D M n : Nat} (h : n ≤ M) : In D M (n : Rat) := ⟨natQ (Nat.zero_le n), natQ h, ((n * D : Nat) : Int), by push_cast; rfl⟩
theorem In.frac {D M n d : Nat} (h : 0 < d) (hd : d ∣ D) (hm : n ≤ M * d) : In D M (mkRat (n : Int) d) := by
  obtain ⟨c, rfl⟩ := hd
  have d0 := natP h
  have e : mkRat (n : Int) d = (n : Rat) / (d : Rat) := by rw [Rat.mkRat_eq_div]; norm_cast
  have hm' : (n : Rat) ≤ (M : Rat) * (d : Rat) := by exact_mod_cast hm
  have n0 := natQ (Nat.zero_le n)
  obtain ⟨x, ex⟩ : ∃ x : Rat, x = (n : Rat) / (d : Rat) := ⟨_, rfl⟩
  have ex2 : x * (d : Rat) = (n : Rat) := by rw [ex]; grind
  rw [e, ← ex]
  refine ⟨?_, ?_, ((n * c : Nat) : Int), ?_⟩
  · refine Rat.not_lt.mp fun z => ?_
    have := Rat.mul_pos (a := -x) (b := (d : Rat)) (by grind) d0
    grind
  · refine Rat.not_lt.mp fun z => ?_
    have := Rat.mul_pos (a := x - (M : Rat)) (b := (d : Rat)) (by grind) d0
    grind
  · push_cast
    grind
theorem In.add {D M N : Nat} {p q : Rat} (h : In D M p) (g : In D N q) : In D (M + N) (p + q) := by
  obtain ⟨a, ea⟩ := h.ex
  obtain ⟨b, eb⟩ := g.ex
  have := h.nn; have := h.le; have := g.nn; have := g.le
  refine ⟨by grind, by push_cast; grind, a + b, by push_cast; grind⟩
theorem In.sub {D M N : Nat} {p q : Rat} (h : In D M p) (g : In D N q) (e : q ≤ p) : In D M (p - q) := by
  obtain ⟨a, ea⟩ := h.ex
  obtain ⟨b, eb⟩ := g.ex
  have := h.nn; have := h.le; have := g.nn; have := g.le
  refine ⟨by grind, by grind, a - b, by push_cast; grind⟩
theorem In.lmin {D M N : Nat} {p q : Rat} (h : In D M p) (g : In D N q) : In D N (lmin p q) := by
  unfold Yk.lmin
  split
  · exact g
  · exact h.of_le (by have := g.le; grind)
theorem In.lmin1 {D M N : Nat} {p q : Rat} (h : In D M p) (g : In D N q) : In D M (Yk.lmin p q) := by
  unfold Yk.lmin
  split
  · exact g.of_le (by have := h.le; grind)
  · exact h
theorem In.lmax {D M : Nat} {p q : Rat} (h : In D M p) (g : In D M q) : In D M (lmax p q) := by
  unfold Yk.lmax
  split
  · exact h
  · exact g
theorem In.mulN {D M : Nat} {q : Rat} (h : In D M q) (w : Nat) : In D (w * M) ((w : Rat) * q) := by
  obtain ⟨a, ea⟩ := h.ex
  have w0 : (0 : Rat) ≤ (w : Rat) := natQ (Nat.zero_le w)
  refine ⟨Rat.mul_nonneg w0 h.nn, ?_, (w : Int) * a, by push_cast; grind⟩
  push_cast
  exact Rat.mul_le_mul_of_nonneg_left h.le w0
theorem In.mul {D D' M N : Nat} {p q : Rat} (h : In D M p) (g : In D' N q) : In (D * D') (M * N) (p * q) := by
  obtain ⟨a, ea⟩ := h.ex
  obtain ⟨b, eb⟩ := g.ex
  have h1 : p * q ≤ (M : Rat) * q := Rat.mul_le_mul_of_nonneg_right h.le g.nn
  have h2 : (M : Rat) * q ≤ (M : Rat) * (N : Rat) := Rat.mul_le_mul_of_nonneg_left g.le (natQ (Nat.zero_le M))
  refine ⟨Rat.mul_nonneg h.nn g.nn, by push_cast; exact Rat.le_trans h1 h2, a * b, ?_⟩
  push_cast
  rw [← ea, ← eb]
  grind
theorem In.divN {D M w : Nat} {q : Rat} (h : In D M q) (hw : 0 < w) : In (D * w) M (q / (w : Rat)) := by
  obtain ⟨a, ea⟩ := h.ex
  have w0 := natP hw
  obtain ⟨x, ex⟩ : ∃ x : Rat, x = q / (w : Rat) := ⟨_, rfl⟩
  have ex2 : x * (w : Rat) = q := by rw [ex]; grind
  have w1 : (1 : Rat) ≤ (w : Rat) := by exact_mod_cast hw
  have x0 : 0 ≤ x := by
    refine Rat.not_lt.mp fun z => ?_
    have := Rat.mul_pos (a := -x) (b := (w : Rat)) (by grind) w0
    have := h.nn
    grind
  rw [← ex]
  refine ⟨x0, ?_, a, by push_cast; grind⟩
  have h1 : x * 1 ≤ x * (w : Rat) := Rat.mul_le_mul_of_nonneg_left w1 x0
  have := h.le
  grind
theorem In.half {D M : Nat} {q : Rat} (h : In D M q) : In (D * 2) M (q * (1 / 2)) := by
  have := h.divN (w := 2) (by decide)
  have e : q / ((2 : Nat) : Rat) = q * (1 / 2) := by push_cast; grind
  rw [e] at this
  exact this
/-- the point on a line, its size -/
theorem In.onl {E M B : Nat} {g tl tu l u : Rat} (h0 : 0 < E) (hg : In E B g) (htl : In E B tl) (htu : In E B tu) (hl : In E M l) (hu : In E M u) (h1 : tl < g) (h2 : g ≤ tu) (h3 : l ≤ u) :
    ∃ X, 0 < X ∧ E ∣ X ∧ X ≤ E * (B * E) ∧ In X M (l + (g - tl) * (u - l) / (tu - tl)) ∧ In E B (g - tl) ∧ In E B (tu - tl) ∧ In E M (u - l) := by
  have ig := hg.sub htl (by grind)
  have ir := htu.sub htl (by grind)
  have iu := hu.sub hl h3
  obtain ⟨n1, e1⟩ := ig.ex
  obtain ⟨n3, e3⟩ := ir.ex
  obtain ⟨n2, e2⟩ := iu.ex
  obtain ⟨n0, e0⟩ := hl.ex
  have E0 := natP h0
  have r0 : 0 < tu - tl := by grind
  have n30 : 0 < n3 := by
    have h := Rat.mul_pos r0 E0
    rw [e3] at h
    exact_mod_cast h
  have n3m : n3 ≤ ((B * E : Nat) : Int) := by
    have h : (tu - tl) * (E : Rat) ≤ (B : Rat) * (E : Rat) := Rat.mul_le_mul_of_nonneg_right ir.le (by grind)
    rw [e3] at h
    have h2 : ((n3 : Int) : Rat) ≤ (((B * E : Nat) : Int) : Rat) := by push_cast; exact h
    exact_mod_cast h2
  have en : ((n3.toNat : Nat) : Int) = n3 := by omega
  have eq : ((n3.toNat : Nat) : Rat) = (n3 : Rat) := by rw [← en]; norm_cast
  refine ⟨E * n3.toNat, Nat.mul_pos h0 (by omega), Nat.dvd_mul_right _ _, Nat.mul_le_mul_left _ (by omega), ?_, ig, ir, iu⟩
  obtain ⟨y, ey⟩ : ∃ y, y = (g - tl) * (u - l) / (tu - tl) := ⟨_, rfl⟩
  have ey2 : y * (tu - tl) = (g - tl) * (u - l) := by rw [ey]; grind
  rw [← ey]
  have y0 : 0 ≤ y := by
    refine Rat.not_lt.mp fun z => ?_
    have h1 := Rat.mul_pos (a := -y) (b := tu - tl) (by grind) r0
    have h2 := Rat.mul_nonneg ig.nn iu.nn
    grind
  have y1 : y ≤ u - l := by
    refine Rat.not_lt.mp fun z => ?_
    have h1 := Rat.mul_pos (a := y - (u - l)) (b := tu - tl) (by grind) r0
    have h2 := Rat.mul_nonneg (a := tu - g) (b := u - l) (by grind) iu.nn
    grind
  refine ⟨by have := hl.nn; grind, by have := hu.le; grind, n0 * n3 + n1 * n2, ?_⟩
  have h5 : y * (E : Rat) * (n3 : Rat) = (n1 : Rat) * (n2 : Rat) := by
    rw [← e3, ← e1, ← e2]
    grind
  push_cast
  rw [eq, ← e0]
  grind

theorem sumQ_map_perm {rows rows' : List Row} (p : rows.Perm rows') (x : Rat) : tot rows x = tot rows' x := sumQ_perm (p.map fun r => r.at_ x)
theorem tot_perm {rows rows' : List Row} (p : rows.Perm rows') : tot rows = tot rows' := funext (sumQ_map_perm p)
/-- what a row may be -/
structure RowOk (D M : Nat) (r : Row) : Prop where
  w0 : 0 < r.w
  w12 : r.w ≤ 12
  b : In D M r.b
  m : ∀ l u, r.man = some (l, u) → In D M l ∧ In D M u
theorem RowOk.up {D D' M : Nat} {r : Row} (h : RowOk D M r) (hd : D ∣ D') : RowOk D' M r := ⟨h.w0, h.w12, h.b.up hd, fun l u e => ⟨(h.m l u e).1.up hd, (h.m l u e).2.up hd⟩⟩
theorem shq_in {X M N w : Nat} {man : Option (Rat × Rat)} {x : Rat} (hm : ∀ l u, man = some (l, u) → In X M l ∧ In X M u) (hx : In X N x) : In X M (shq man w x) := by
  cases man with
  | none => exact In.zero
  | some p =>
    obtain ⟨l, u⟩ := p
    obtain ⟨h1, h2⟩ := hm l u rfl
    exact h1.lmax (h2.lmin1 (hx.mulN w))
theorem RowOk.at_ {X M N : Nat} {r : Row} {x : Rat} (h : RowOk X M r) (hx : In X N x) : In X M (r.at_ x) := shq_in h.m (hx.lmin h.b)
theorem tot_in {X M N : Nat} {x : Rat} (hx : In X N x) : ∀ {rows : List Row}, (∀ r ∈ rows, RowOk X M r) → In X (rows.length * M) (tot rows x)
  | [], _ => In.zero
  | r :: rows, h => by
    rw [tot_cons]
    have h1 := (h r List.mem_cons_self).at_ hx
    have h2 := tot_in hx (rows := rows) fun r hr => h r (List.mem_cons_of_mem _ hr)
    have h3 := h1.add h2
    rw [List.length_cons, Nat.add_mul, Nat.one_mul, Nat.add_comm]
    exact h3
theorem in_brk {D M : Nat} {r : Row} (h : RowOk D M r) : ∀ p ∈ r.brk, In (D * 27720) M p := by
  have hw : D * r.w ∣ D * 27720 := Nat.mul_dvd_mul_left D (by
    have a := h.w0
    have b := h.w12
    generalize r.w = w at a b
    have : w = 1 ∨ w = 2 ∨ w = 3 ∨ w = 4 ∨ w = 5 ∨ w = 6 ∨ w = 7 ∨ w = 8 ∨ w = 9 ∨ w = 10 ∨ w = 11 ∨ w = 12 := by omega
    rcases this with rfl | rfl | rfl | rfl | rfl | rfl | rfl | rfl | rfl | rfl | rfl | rfl <;> decide)
  intro p hp
  unfold Row.brk at hp
  split at hp
  · rw [List.mem_singleton.mp hp]
    exact h.b.up (Nat.dvd_mul_right _ _)
  · rename_i l u e
    obtain ⟨h1, h2⟩ := h.m l u e
    simp only [List.mem_cons, List.not_mem_nil, or_false] at hp
    rcases hp with rfl | rfl | rfl
    · exact (h1.divN h.w0).up hw
    · exact (h2.divN h.w0).up hw
    · exact h.b.up (Nat.dvd_mul_right _ _)
end Yk

set_option maxHeartbeats 4000000
namespace Yk
open PySem PySem.Spec PyProof.Rows L2

section
variable {K : PySem.W.Frag} {H H1 : Hp} {Q : VK}
def ManIs (K : PySem.W.Frag) (H : Hp) (v : V) : Option (Rat × Rat) → Prop
  | none => ∃ a, v = .ref a ∧ SqT K H a []
  | some p => ∃ a v1 v2, v = .ref a ∧ SqT K H a [v1, v2] ∧ Am K H v1 p.1 ∧ Am K H v2 p.2
theorem ManIs.x {S : List Addr} {v : V} {man : Option (Rat × Rat)} (e : Ext S H H1) (h : ManIs K H v man) (hs : ∀ b ∈ S, ∃ l, H b = some (.lst l)) : ManIs K H1 v man := by
  cases man with
  | none => obtain ⟨a, rfl, h⟩ := h; exact ⟨a, rfl, tupX e h hs⟩
  | some p => obtain ⟨a, v1, v2, rfl, h, a1, a2⟩ := h; exact ⟨a, v1, v2, rfl, tupX e h hs, a1.x e hs, a2.x e hs⟩
theorem ManIs.x0 {v : V} {man : Option (Rat × Rat)} (e : Ext [] H H1) (h : ManIs K H v man) : ManIs K H1 v man := h.x e fun _ z => nomatch z
def RowIs (K : PySem.W.Frag) (H : Hp) (v : V) (r : Row) : Prop := ∃ a mv bv, v = .ref a ∧ SqT K H a [mv, .int (r.w : Int), bv] ∧ ManIs K H mv r.man ∧ Am K H bv r.b
theorem RowIs.x {S : List Addr} {v : V} {r : Row} (e : Ext S H H1) (h : RowIs K H v r) (hs : ∀ b ∈ S, ∃ l, H b = some (.lst l)) : RowIs K H1 v r := by
  obtain ⟨a, mv, bv, rfl, h, h1, h2⟩ := h
  exact ⟨a, mv, bv, rfl, tupX e h hs, h1.x e hs, h2.x e hs⟩
theorem RowIs.x0 {v : V} {r : Row} (e : Ext [] H H1) (h : RowIs K H v r) : RowIs K H1 v r := h.x e fun _ z => nomatch z
def RowsIs (K : PySem.W.Frag) (H : Hp) (xs : List V) (rows : List Row) : Prop := Rel (RowIs K H) xs rows
theorem RowsIs.x {S : List Addr} {xs : List V} {rows : List Row} (e : Ext S H H1) (h : RowsIs K H xs rows) (hs : ∀ b ∈ S, ∃ l, H b = some (.lst l)) : RowsIs K H1 xs rows := h.imp fun _ _ z => z.x e hs
theorem RowsIs.x0 {xs : List V} {rows : List Row} (e : Ext [] H H1) (h : RowsIs K H xs rows) : RowsIs K H1 xs rows := h.imp fun _ _ z => z.x0 e
theorem bagS {b : Bag} (hb : BagAt K H b) : ∀ c ∈ [b.a], ∃ l, H c = some (.lst l) := fun c hc => by rw [List.mem_singleton.mp hc]; exact hb.lst
theorem lstS1 {c : Addr} {l : List V} (h : H c = some (.lst l)) : ∀ x ∈ [c], ∃ l, H x = some (.lst l) := fun x hx => by rw [List.mem_singleton.mp hx]; exact ⟨l, h⟩
theorem extW {c : Addr} {o : HO} : Ext [c] H (upd H c o) := Ext.refl.at_ List.mem_cons_self
theorem Am.w {c : Addr} {l l' : List V} {v : V} {q : Rat} (h : H c = some (.lst l)) (a : Am K H v q) : Am K (upd H c (.lst l')) v q := a.x extW (lstS1 h)
theorem Ams.w {c : Addr} {l l' : List V} {v : List V} {q : List Rat} (h : H c = some (.lst l)) (a : Ams K H v q) : Ams K (upd H c (.lst l')) v q := a.x extW (lstS1 h)
theorem RowIs.w {c : Addr} {l l' : List V} {v : V} {r : Row} (h : H c = some (.lst l)) (a : RowIs K H v r) : RowIs K (upd H c (.lst l')) v r := a.x extW (lstS1 h)
theorem RowsIs.w {c : Addr} {l l' : List V} {v : List V} {r : List Row} (h : H c = some (.lst l)) (a : RowsIs K H v r) : RowsIs K (upd H c (.lst l')) v r := a.x extW (lstS1 h)
/-! equality -/
theorem dp_am {v : V} {q : Rat} (h : Am K H v q) : Dp K H v (.tuple [.int q.num, .int (q.den : Int)]) := by
  obtain ⟨a, rfl, h⟩ := h
  exact .tup h (.cons (.int _) (.cons (.int _) .nil))
theorem rat_eq {p q : Rat} : p = q ↔ p.num = q.num ∧ p.den = q.den := ⟨fun h => by rw [h]; exact ⟨rfl, rfl⟩, fun h => Rat.ext h.1 h.2⟩
theorem eq_am {v w : V} {p q : Rat} (h : Am K H v p) (g : Am K H w q) (k : Q (.bl (decide (p = q))) H) : rEqD K v w H Q := by
  refine ⟨_, _, dp_am h, dp_am g, rfl, rfl, ?_⟩
  have e : PyData.eqv (.tuple [.int p.num, .int (p.den : Int)]) (.tuple [.int q.num, .int (q.den : Int)]) = decide (p = q) := by
    rw [Bool.eq_iff_iff]
    simp [PyData.eqv, PyData.eqvAll, rat_eq]
    omega
  rw [e]
  exact k
theorem ne_am {v w : V} {p q : Rat} (h : Am K H v p) (g : Am K H w q) (k : Q (.bl (!decide (p = q))) H) : rNeD K v w H Q := by
  refine ⟨_, _, dp_am h, dp_am g, rfl, rfl, ?_⟩
  have e : PyData.eqv (.tuple [.int p.num, .int (p.den : Int)]) (.tuple [.int q.num, .int (q.den : Int)]) = decide (p = q) := by
    rw [Bool.eq_iff_iff]
    simp [PyData.eqv, PyData.eqvAll, rat_eq]
    omega
  rw [e]
  exact k
theorem eq_man {v : V} {man : Option (Rat × Rat)} {p : Addr} (h : ManIs K H v man) (g : SqT K H p []) (k : Q (.bl man.isNone) H) : rEqD K v (.ref p) H Q := by
  cases man with
  | none => obtain ⟨a, rfl, h⟩ := h; exact ⟨.tuple [], .tuple [], .tup h .nil, .tup g .nil, rfl, rfl, k⟩
  | some q => obtain ⟨a, v1, v2, rfl, h, a1, a2⟩ := h; exact ⟨_, .tuple [], .tup h (.cons (dp_am a1) (.cons (dp_am a2) .nil)), .tup g .nil, rfl, rfl, k⟩
theorem ne_man {v : V} {man : Option (Rat × Rat)} {p : Addr} (h : ManIs K H v man) (g : SqT K H p []) (k : Q (.bl (!man.isNone)) H) : rNeD K v (.ref p) H Q := by
  cases man with
  | none => obtain ⟨a, rfl, h⟩ := h; exact ⟨.tuple [], .tuple [], .tup h .nil, .tup g .nil, rfl, rfl, k⟩
  | some q => obtain ⟨a, v1, v2, rfl, h, a1, a2⟩ := h; exact ⟨_, .tuple [], .tup h (.cons (dp_am a1) (.cons (dp_am a2) .nil)), .tup g .nil, rfl, rfl, k⟩
theorem am_nat {a : Addr} {w : Nat} (h : SqT K H a [.int (w : Int), .int 1]) : Am K H (.ref a) (w : Rat) := ⟨a, rfl, h⟩
theorem sz_nat {w m : Nat} (h : w < 2 ^ m) (h0 : 0 < m) : Sz m (w : Rat) := ⟨h, Nat.lt_of_lt_of_le (by decide : 1 < 2 ^ 1) (Nat.pow_le_pow_right (by decide) h0)⟩
theorem mk_w (w : Nat) {q : Rat} (h : 0 ≤ q) : mkRat ((w * q.num.toNat : Nat) : Int) q.den = (w : Rat) * q := by
  have hn := num_nn h
  have e : ((w * q.num.toNat : Nat) : Int) = (w : Int) * q.num := by push_cast; rw [Int.toNat_of_nonneg hn]
  rw [e, Rat.mkRat_eq_div]
  have hd := natP q.den_pos
  have e2 : (q.num : Rat) / (q.den : Rat) = q := by rw [← Rat.mkRat_eq_div]; exact Rat.mkRat_self q
  push_cast
  grind
theorem maxQ1 (a b : Rat) : maxQ a [b] = lmax a b := (lmax_eq a b).symm
theorem minQ1 (a b : Rat) : minQ a [b] = lmin a b := rfl
theorem lmin_comm (a b : Rat) : lmin a b = lmin b a := by unfold lmin; grind
theorem lmax_comm (a b : Rat) : lmax a b = lmax b a := by unfold lmax; grind
theorem k_min2 {v w : V} {p q : Rat} {E : XK} (a : Am K H v p) (b : Am K H w q) (z1 : Sz 4000 p) (z2 : Sz 4000 q) (k : ∀ v H', Ext [] H H' → Am K H' v (lmin p q) → Q v H') : spMin minQ K [v, w] H Q E :=
  ⟨p, [q], Ams.cons a (Ams.cons b Ams.nil), fun x hx => by
    rcases List.mem_cons.mp hx with rfl | hx
    · exact z1
    · rw [List.mem_singleton.mp hx]; exact z2, by simp, k⟩
theorem k_max2 {v w : V} {p q : Rat} {E : XK} (a : Am K H v p) (b : Am K H w q) (z1 : Sz 4000 p) (z2 : Sz 4000 q) (k : ∀ v H', Ext [] H H' → Am K H' v (lmax p q) → Q v H') : spMin maxQ K [v, w] H Q E :=
  ⟨p, [q], Ams.cons a (Ams.cons b Ams.nil), fun x hx => by
    rcases List.mem_cons.mp hx with rfl | hx
    · exact z1
    · rw [List.mem_singleton.mp hx]; exact z2, by simp, fun v H' e c => k v H' e (by rw [← maxQ1]; exact c)⟩
theorem sz_min {m : Nat} {p q : Rat} (h : Sz m p) (g : Sz m q) : Sz m (lmin p q) := by unfold lmin; split <;> assumption
theorem sz_max {m : Nat} {p q : Rat} (h : Sz m p) (g : Sz m q) : Sz m (lmax p q) := by unfold lmax; split <;> assumption
end
section
variable {P : Program} {w : World} {K : PySem.W.Frag} {mg : Str → Option Value} {base : Heap} {f : Addr} {fd : FuncData}
def ManSz (n : Nat) (man : Option (Rat × Rat)) : Prop := ∀ l u, man = some (l, u) → Sz n l ∧ Sz n u
def spShare (K : PySem.W.Frag) : Sp := fun vs H Q _ => ∃ (m x : V) (wt : Nat) (man : Option (Rat × Rat)) (q : Rat), vs = [m, .int (wt : Int), x] ∧ ManIs K H m man ∧ Am K H x q ∧ wt ≤ 12 ∧ ManSz 2000 man ∧ Sz 2000 q ∧ RetAm K H Q (shq man wt q)
abbrev s_share : Stmt := top 18
theorem c_share : FnScope ["manner", "weight", "level", "least", "most"] ["manner", "weight", "level"] (defScope s_share) := ⟨rfl, rfl, rfl, by decide +kernel, rfl, by decide +kernel, by decide +kernel⟩
theorem f_share (F : FunD K "share" "share" (defArgs s_share) (defBody s_share) (defScope s_share) [] [] f fd) (hm : mg "share" = some (.ref f)) (TZ : ∃ z, mg "ZERO" = some (.ref z) ∧ ∀ H, SqT K H z [.int 0, .int 1]) (Ftimes : Fn P w K mg base 2 "times" (spTimes K)) (Fsmallest : Fn P w K mg base 2 "smallest" (spMin minQ K)) (Flargest : Fn P w K mg base 2 "largest" (spMin maxQ K)) : Fn P w K mg base 3 "share" (spShare K) := by
  refine fn_def F hm c_share (fun vs H Q E h => ?_) (fun _ _ _ _ _ _ us hl => match us, hl with | [_, _, _], _ => rfl) (fun cdv A outer s H vs Q E hr h => ?_)
  · obtain ⟨m, x, wt, man, q, rfl, _⟩ := h
    rfl
  · obtain ⟨m, x, wt, man, q, rfl, hm, hx, h12, zm, zx, k⟩ := h
    have nd := c_share.nd
    obtain ⟨z, mz, hz⟩ := TZ
    refine ⟨_, (pss_cons (ps_if (pt_cmpR (op_eqD hr.units) (pv 0) (pe_tup pa_nil) (nomark _))
        (pss_one (ps_ret (pe_glob (v := .ref z) rfl mz rfl)))
        pss_nil)
      (pss_cons (ps_asg (pv 0) (pg_tup rfl (pgs_cons (pg_name (i := 3) nd rfl (by first | exact Or.inl rfl | exact Or.inr rfl)) (pgs_cons (pg_name (i := 4) nd rfl (by first | exact Or.inl rfl | exact Or.inr rfl)) pgs_nil))))
      (pss_one (ps_ret (pe_fn Flargest (hr.mono (by decide)) (pa_cons (pv 3) (pa_cons (pe_fn Fsmallest (hr.mono (by decide)) (pa_cons (pv 4) (pa_cons (pe_fn Ftimes (hr.mono (by decide)) (pa_cons (pe_tup (pa_cons (pv 1) (pa_cons pe_int pa_nil))) (pa_cons (pv 2) pa_nil))) pa_nil))) pa_nil))))))), ?_⟩
    show (_ : TS) _ [some _, some _, some _, none, none] _
    try dsimp only [cxOf, Cx.nox]
    walk_at "go"
    refine eq_man (hm.x0 (Ext.refl.new (by assumption))) tupS ?_
    walk_at "go"
    cases man with
    | none =>
      walk_at "run"
      exact k _ _ (by walk_at "ext") ⟨z, rfl, hz _⟩
    | some p =>
      obtain ⟨l, u⟩ := p
      obtain ⟨zl, zu⟩ := zm l u rfl
      obtain ⟨a, v1, v2, rfl, ht, a1, a2⟩ := hm
      walk_at "run"
      refine k_times (am_nat tupS) (by walk_at "am") ((sz_nat (m := 4) (by omega) (by decide)).mono (by decide)) (zx.mono (by decide)) fun v3 H3 n3 a3 => ?_
      walk_at "go"
      have z3 : Sz 2004 ((wt : Rat) * q) := (sz_mul (sz_nat (m := 4) (by omega) (by decide)) zx).mono (by decide)
      refine k_min2 (by walk_at "am") a3 (zu.mono (by decide)) (z3.mono (by decide)) fun v4 H4 n4 a4 => ?_
      walk_at "go"
      have z4 : Sz 4000 (lmin u ((wt : Rat) * q)) := sz_min (zu.mono (by decide)) (z3.mono (by decide))
      refine k_max2 (by walk_at "am") a4 (zl.mono (by decide)) z4 fun v5 H5 n5 a5 => ?_
      walk_at "go"
      exact k _ _ (by walk_at "ext") a5
/-- rows of shares, carried through a list of them -/
theorem rowSz {X M j m : Nat} {r : Row} (h : RowOk X M r) (h0 : 0 < X) (hX : X ≤ 2 ^ j) (hM : M ≤ 2 ^ m) : ManSz (j + m + 1) r.man ∧ Sz (j + m + 1) r.b := ⟨fun l u e => ⟨(h.m l u e).1.sz h0 hX hM, (h.m l u e).2.sz h0 hX hM⟩, h.b.sz h0 hX hM⟩
/-- amounts in the row, all in step -/
structure TotOk (X M N : Nat) (rows : List Row) (x : Rat) : Prop where
  X0 : 0 < X
  X9 : X ≤ 2 ^ 400
  M9 : M ≤ 2 ^ 20
  N9 : N ≤ 2 ^ 120
  row : ∀ r ∈ rows, RowOk X M r
  x : In X N x
  n : rows.length ≤ 8
def spTotal (K : PySem.W.Frag) : Sp := fun vs H Q _ => ∃ (a : Addr) (xs : List V) (rows : List Row) (v : V) (x : Rat) (X M N : Nat), vs = [.ref a, v] ∧ SqQ K H a xs ∧ RowsIs K H xs rows ∧ Am K H v x ∧ TotOk X M N rows x ∧ RetAm K H Q (tot rows x)
theorem take_map {α : Type} {f : Row → α} {rows : List Row} {i : Nat} {r : Row} (h : rows[i]? = some r) : (rows.take (i + 1)).map f = (rows.take i).map f ++ [f r] := by
  obtain ⟨hl, e⟩ := List.getElem?_eq_some_iff.mp h
  rw [← List.take_append_getElem hl, List.map_append, e]
  rfl
abbrev s_total : Stmt := top 19
theorem c_total : FnScope ["wishes", "level", "found", "manner", "weight", "bound"] ["wishes", "level"] (defScope s_total) := ⟨rfl, rfl, rfl, by decide +kernel, rfl, by decide +kernel, by decide +kernel⟩
theorem f_total (F : FunD K "total" "total" (defArgs s_total) (defBody s_total) (defScope s_total) [] [] f fd) (hm : mg "total" = some (.ref f)) (Fshare : Fn P w K mg base 3 "share" (spShare K)) (Fplus : Fn P w K mg base 2 "plus" (spPlus K)) (Fsmallest : Fn P w K mg base 2 "smallest" (spMin minQ K)) : Fn P w K mg base 4 "total" (spTotal K) := by
  refine fn_def F hm c_total (fun vs H Q E h => ?_) (fun _ _ _ _ _ _ us hl => match us, hl with | [_, _], _ => rfl) (fun cdv A outer s H vs Q E hr h => ?_)
  · obtain ⟨a, xs, rows, v, x, X, M, N, rfl, _⟩ := h
    rfl
  · obtain ⟨a, xs, rows, v, x, X, M, N, rfl, ha, hrows, hx, T, k⟩ := h
    have nd := c_total.nd
    refine ⟨_, (pss_cons (ps_setLc (i := 2) (own := [("manner", 3), ("weight", 4), ("bound", 5)])  rfl nd rfl rfl (sw_true rfl rfl rfl (by decide +kernel)) (pi_seq (pv 0)) (blkOk_by (N := ["wishes", "level", "found", "manner", "weight", "bound"]) (sc := defScope s_total) (by decide +kernel)) (fun _ _ _ _ _ => (pg_tup (n := 3) rfl (pgs_cons (pg_name (i := 3) nd rfl (Or.inl rfl)) (pgs_cons (pg_name (i := 4) nd rfl (Or.inl rfl)) (pgs_cons (pg_name (i := 5) nd rfl (Or.inl rfl)) pgs_nil))) : PG _ _ (gTup K 3 _))) (fun _ _ _ _ _ => pts_nil) (fun _ _ _ _ _ => (pe_fn Fshare (hr.mono (by decide)) (pa_cons (pv 3) (pa_cons (pv 4) (pa_cons (pe_fn Fsmallest (hr.mono (by decide)) (pa_cons (pv 1) (pa_cons (pv 5) pa_nil))) pa_nil))))))
      (pss_one (ps_ret (pe_fnS1 Fplus (hr.mono (by decide)) (pv 2))))), ?_⟩
    show (_ : TS) _ [some _, some _, none, none, none, none] _
    try dsimp only [cxOf, Cx.nox]
    walk_at "go"
    have zr : ∀ r ∈ rows, ManSz 421 r.man ∧ Sz 421 r.b := fun r hr => rowSz (T.row r hr) T.X0 T.X9 T.M9
    have zx : Sz 521 x := T.x.sz T.X0 T.X9 T.N9
    refine r_lcQ rfl ha (kp0 Ext.refl) fun D hD => ⟨fun i H1 => ∃ acc : List V, H1 D = some (.lst acc) ∧ Ams K H1 acc ((rows.take i).map fun r => r.at_ x) ∧ Ext [] H H1, ?_, ?_, ?_, ?_⟩
    · exact ⟨[], upd_same, Ams.nil, Ext.refl.new hD⟩
    · rintro j H2 ⟨acc, _, _, e⟩
      exact kp0 e
    · rintro j y H1 hy ⟨acc, hacc, hams, e1⟩
      obtain ⟨r, hr, hrow⟩ := hrows.at_ hy
      have hrm := List.mem_of_getElem? hr
      obtain ⟨at_, mv, bv, rfl, ht, hm, hb⟩ := hrow.x0 e1
      walk_at "go"
      refine ⟨rfl, ?_⟩
      walk_at "go"
      refine k_min2 (hx.x0 e1) hb (zx.mono (by decide)) ((zr r hrm).2.mono (by decide)) fun v1 H2 n2 a2 => ?_
      walk_at "go"
      have zm : Sz 2000 (lmin x r.b) := (sz_min zx ((zr r hrm).2.mono (by decide))).mono (by decide)
      refine ⟨mv, v1, r.w, r.man, lmin x r.b, rfl, hm.x0 n2, a2, (T.row r hrm).w12, fun l u e => ⟨((zr r hrm).1 l u e).1.mono (by decide), ((zr r hrm).1 l u e).2.mono (by decide)⟩, zm, fun v2 H3 n3 a3 => ?_⟩
      walk_at "go"
      have hD3 : H3 D = some (.lst acc) := n3 _ _ (n2 _ _ hacc fun z => nomatch z) fun z => nomatch z
      have S3 : ∀ c ∈ [D], ∃ l, H3 c = some (.lst l) := fun c hc => by rw [List.mem_singleton.mp hc]; exact ⟨_, hD3⟩
      have e3 : Ext [D] H3 (upd H3 D (.lst (acc ++ [v2]))) := Ext.refl.at_ List.mem_cons_self
      have hl := hams.1
      rw [List.length_map, List.length_take] at hl
      have := T.n
      refine ⟨acc, hD3, Nat.lt_of_le_of_lt (by omega : acc.length ≤ 4000) (by decide), acc ++ [v2], upd_same, ?_, ((e1.trans n2).trans n3).own hD⟩
      rw [take_map hr]
      exact (((hams.x0 n2).x0 n3).x e3 S3).app (Ams.cons (a3.x e3 S3) Ams.nil)
    · rintro H1 ⟨acc, hacc, hams, e1⟩
      rw [hrows.1, List.take_length] at hams
      have hl := hams.1
      rw [List.length_map] at hl
      walk_at "go"
      refine ⟨D, acc, rfl, .inr (.inl (.inl hacc)), _, 421, hams, fun q hq => ?_, by decide, ?_, fun v2 H2 n2 a2 => ?_⟩
      · obtain ⟨r, hr, rfl⟩ := List.mem_map.mp hq
        exact ((T.row r hr).at_ T.x).sz T.X0 T.X9 T.M9
      · rw [List.length_map]
        have := T.n
        omega
      · walk_at "go"
        exact k v2 H2 (e1.trans n2) a2
end
end Yk

set_option maxHeartbeats 4000000
namespace Yk
open PySem PySem.Spec PyProof.Rows L2

section
variable {P : Program} {w : World} {K : PySem.W.Frag} {mg : Str → Option Value} {base : Heap} {f : Addr} {fd : FuncData}
/-- rising -/
abbrev Asc (qs : List Rat) : Prop := qs.Pairwise (· ≤ ·)
theorem asc_snoc {qs : List Rat} {q : Rat} (h : Asc qs) (g : ∀ x ∈ qs, x ≤ q) : Asc (qs ++ [q]) := List.pairwise_append.mpr ⟨h, List.pairwise_singleton _ _, fun x hx y hy => by rw [List.mem_singleton.mp hy]; exact g x hx⟩
theorem asc_get {qs : List Rat} (h : Asc qs) {i j : Nat} {x y : Rat} (hi : qs[i]? = some x) (hj : qs[j]? = some y) (e : i ≤ j) : x ≤ y := by
  obtain ⟨hi, rfl⟩ := List.getElem?_eq_some_iff.mp hi
  obtain ⟨hj, rfl⟩ := List.getElem?_eq_some_iff.mp hj
  rcases Nat.lt_or_eq_of_le e with e | rfl
  · exact List.pairwise_iff_getElem.mp h i j _ _ e
  · exact Rat.le_refl
structure Mid (ps qs : List Rat) (n j : Nat) (rs : List Rat) : Prop where
  perm : rs.Perm (ps.take n ++ qs.take j)
  asc : Asc rs
  p : ∀ x ∈ rs, ∀ y ∈ ps.drop n, x ≤ y
  q : ∀ x ∈ rs, ∀ y ∈ qs.drop j, x ≤ y
theorem drop_get {ps : List Rat} {n : Nat} {x : Rat} (h : ps[n]? = some x) : ps.drop n = x :: ps.drop (n + 1) := by
  obtain ⟨hl, rfl⟩ := List.getElem?_eq_some_iff.mp h
  exact List.drop_eq_getElem_cons hl
theorem take_get {ps : List Rat} {n : Nat} {x : Rat} (h : ps[n]? = some x) : ps.take (n + 1) = ps.take n ++ [x] := by
  obtain ⟨hl, rfl⟩ := List.getElem?_eq_some_iff.mp h
  exact (List.take_append_getElem hl).symm
theorem asc_drop {ps : List Rat} (h : Asc ps) {n : Nat} {x : Rat} (hx : ps[n]? = some x) : ∀ y ∈ ps.drop (n + 1), x ≤ y := by
  have h1 : Asc (ps.drop n) := h.sublist (List.drop_sublist n ps)
  rw [drop_get hx] at h1
  exact (List.pairwise_cons.mp h1).1
theorem Mid.fst {ps qs rs : List Rat} {n j : Nat} (m : Mid ps qs n j rs) (hp : Asc ps) (hq : Asc qs) {x y : Rat} (hx : ps[n]? = some x) (hy : qs[j]? = some y) (e : x ≤ y) : Mid ps qs (n + 1) j (rs ++ [x]) := by
  have dx := drop_get hx
  have dy := drop_get hy
  have xm : x ∈ ps.drop n := by rw [dx]; exact List.mem_cons_self
  refine ⟨?_, asc_snoc m.asc fun z hz => m.p z hz x xm, fun z hz u hu => ?_, fun z hz u hu => ?_⟩
  · rw [take_get hx]
    refine (m.perm.append_right [x]).trans ?_
    rw [List.append_assoc, List.append_assoc]
    exact (List.perm_append_comm).append_left _
  · have hu2 : u ∈ ps.drop n := by rw [dx]; exact List.mem_cons_of_mem _ hu
    rcases List.mem_append.mp hz with hz | hz
    · exact m.p z hz u hu2
    · rw [List.mem_singleton.mp hz]; exact asc_drop hp hx u hu
  · rcases List.mem_append.mp hz with hz | hz
    · exact m.q z hz u hu
    · rw [List.mem_singleton.mp hz]
      rw [dy] at hu
      rcases List.mem_cons.mp hu with rfl | hu
      · exact e
      · exact Rat.le_trans e (asc_drop hq hy u hu)
theorem Mid.snd {ps qs rs : List Rat} {n j : Nat} (m : Mid ps qs n j rs) (hp : Asc ps) (hq : Asc qs) {y : Rat} (hy : qs[j]? = some y) (e : ∀ x, ps[n]? = some x → y ≤ x) : Mid ps qs n (j + 1) (rs ++ [y]) := by
  have dy := drop_get hy
  have ym : y ∈ qs.drop j := by rw [dy]; exact List.mem_cons_self
  refine ⟨?_, asc_snoc m.asc fun z hz => m.q z hz y ym, fun z hz u hu => ?_, fun z hz u hu => ?_⟩
  · rw [take_get hy, ← List.append_assoc]
    exact m.perm.append_right [y]
  · rcases List.mem_append.mp hz with hz | hz
    · exact m.p z hz u hu
    · rw [List.mem_singleton.mp hz]
      cases hx : ps[n]? with
      | none =>
        rw [List.drop_eq_nil_of_le (List.getElem?_eq_none_iff.mp hx)] at hu
        cases hu
      | some x =>
        rw [drop_get hx] at hu
        rcases List.mem_cons.mp hu with rfl | hu
        · exact e _ hx
        · exact Rat.le_trans (e x hx) (asc_drop hp hx u hu)
  · have hu2 : u ∈ qs.drop j := by rw [dy]; exact List.mem_cons_of_mem _ hu
    rcases List.mem_append.mp hz with hz | hz
    · exact m.q z hz u hu2
    · rw [List.mem_singleton.mp hz]; exact asc_drop hq hy u hu
theorem Mid.done {ps qs rs : List Rat} {n : Nat} (m : Mid ps qs n qs.length rs) (hp : Asc ps) : (rs ++ ps.drop n).Perm (ps ++ qs) ∧ Asc (rs ++ ps.drop n) := by
  constructor
  · have h := m.perm.append_right (ps.drop n)
    rw [List.take_length] at h
    refine h.trans ?_
    rw [List.append_assoc]
    refine (List.perm_append_comm.append_left _).trans ?_
    rw [← List.append_assoc, List.take_append_drop]
  · exact List.pairwise_append.mpr ⟨m.asc, hp.sublist (List.drop_sublist n ps), m.p⟩
def spMerged (K : PySem.W.Frag) : Sp := fun vs H Q _ => ∃ (a b : Addr) (xs ys : List V) (ps qs : List Rat), vs = [.ref a, .ref b] ∧ SqL K H a xs ∧ SqL K H b ys ∧ Ams K H xs ps ∧ Ams K H ys qs ∧ Asc ps ∧ Asc qs ∧ (∀ q ∈ ps, Sz 4000 q) ∧ (∀ q ∈ qs, Sz 4000 q) ∧ ps.length ≤ 1000 ∧ qs.length ≤ 1000 ∧
  ∀ (c : Addr) (zs : List V) (rs : List Rat) H', H' c = some (.lst zs) → Ams K H' zs rs → rs.Perm (ps ++ qs) → Asc rs → Ext [] H H' → Q (.ref c) H'
theorem cmpQ_le {p q : Rat} : cmpQ p q ≤ 0 ↔ p ≤ q := by unfold cmpQ; grind
theorem cmpQ_lt {p q : Rat} : cmpQ p q < 0 ↔ p < q := by unfold cmpQ; grind
abbrev s_merged : Stmt := top 28
theorem c_merged : FnScope ["first", "second", "found", "at", "height"] ["first", "second"] (defScope s_merged) := ⟨rfl, rfl, rfl, by decide +kernel, rfl, by decide +kernel, by decide +kernel⟩
theorem f_merged (F : FunD K "_merged" "_merged" (defArgs s_merged) (defBody s_merged) (defScope s_merged) [] [] f fd) (hm : mg "_merged" = some (.ref f)) (T : Bt mg) (Fcompare : Fn P w K mg base 1 "compare" (spCompare K)) : Fn P w K mg base 2 "_merged" (spMerged K) := by
  refine fn_def F hm c_merged (fun vs H Q E h => ?_) (fun _ _ _ _ _ _ us hl => match us, hl with | [_, _], _ => rfl) (fun cdv A outer s H vs Q E hr h => ?_)
  · obtain ⟨a, b, xs, ys, ps, qs, rfl, _⟩ := h
    rfl
  · obtain ⟨a, b, xs, ys, ps, qs, rfl, ha, hb, hps, hqs, ap, aq, zp, zq, lp, lq, k⟩ := h
    have nd := c_merged.nd
    refine ⟨_, (pss_cons (ps_set (i := 2) nd rfl (by first | exact Or.inl rfl | exact Or.inr rfl) (pe_lst pa_nil))
      (pss_cons (ps_set (i := 3) nd rfl (by first | exact Or.inl rfl | exact Or.inr rfl) pe_int)
      (pss_cons (ps_for PassesOwn.never rfl (pi_list (pv 1)) (pg_name (i := 4) nd rfl (by first | exact Or.inl rfl | exact Or.inr rfl))
        (pss_cons (ps_while PassesOwn.never (PW.pt (pw_and (pt_cmpR op_lt (pv 3) (pe_callB cr_len (by rfl) T.len (by decide +kernel) (pa_cons (pv 0) pa_nil)) (nomark _)) (pw_and1 (pt_cmpR op_le (pe_fn Fcompare (hr.mono (by decide)) (pa_cons (pe_ix ix_list (pv 0) (pv 3) (fun _ _ => rfl)) (pa_cons (pv 4) pa_nil))) pe_int (nomark _)))))
          (pss_cons (ps_expr (pe_bm PySem.F.plainAttrs_list PySem.F.slot_list_append PySem.F.type_list_append mt_append (pv 2) (pa_cons (pe_ix ix_list (pv 0) (pv 3) (fun _ _ => rfl)) pa_nil)))
          (pss_one (ps_aug (i := 3) nd rfl (by first | exact Or.inl rfl | exact Or.inr rfl) pe_int ip_add))))
        (pss_one (ps_expr (pe_bm PySem.F.plainAttrs_list PySem.F.slot_list_append PySem.F.type_list_append mt_append (pv 2) (pa_cons (pv 4) pa_nil))))))
      (pss_one (ps_ret (pe_op op_cat (pv 2) (pe_slice sl_list (pv 0) (po_some (pv 3)) po_none))))))), ?_⟩
    show (_ : TS) _ [some _, some _, none, none, none] _
    try dsimp only [cxOf, Cx.nox]
    walk_at "go"
    rename_i D hD
    refine r_for ?_
    walk_at "go"
    refine ⟨b, rfl, ⟨_, lstN hb hD⟩, ?_⟩
    refine r_loopL (xs := ys) (fun j σ H1 => ∃ (n : Nat) (zs : List V) (rs : List Rat) (u : Option V), σ = [some (V.ref a), some (V.ref b), some (V.ref D), some (V.int (n : Int)), u] ∧ n ≤ ps.length ∧ H1 D = some (.lst zs) ∧ Ams K H1 zs rs ∧ Mid ps qs n j rs ∧ Ext [] H H1)
      ⟨0, [], [], none, rfl, Nat.zero_le _, upd_same, Ams.nil, ⟨by simp, List.Pairwise.nil, fun x hx => (nomatch hx), fun x hx => (nomatch hx)⟩, Ext.refl.new hD⟩ ?_ ?_ ?_
    · rintro j σ H1 hj ⟨n, zs, rs, u, rfl, hn, hz, hr, m, e1⟩
      exact lst0 e1 hb
    · rintro j y σ H1 hy ⟨n, zs, rs, u, rfl, hn, hz, hr, m, e1⟩
      obtain ⟨qy, hqy, ay⟩ := hqs.at_ hy
      have zy := zq qy (List.mem_of_getElem? hqy)
      walk_at "go"
      refine r_while (fun c σ H2 => ∃ (n : Nat) (zs : List V) (rs : List Rat), c = ps.length - n ∧ σ = [some (V.ref a), some (V.ref b), some (V.ref D), some (V.int (n : Int)), some y] ∧ n ≤ ps.length ∧ H2 D = some (.lst zs) ∧ Ams K H2 zs rs ∧ Mid ps qs n j rs ∧ Ext [] H H2)
        (ps.length - n) ⟨n, zs, rs, rfl, rfl, hn, hz, hr, m, e1⟩ ?_
      clear hz hr m e1 hn n zs rs
      rintro c σ H2 ⟨n, zs, rs, rfl, rfl, hn, hz, hr, m, e1⟩
      have lx := hps.1
      have lz : zs.length ≤ 3000 := by
        have h1 := m.perm.length_eq
        rw [List.length_append, List.length_take, List.length_take] at h1
        have h2 := hr.1
        omega
      have fin : ∀ (_ : ∀ x, ps[n]? = some x → qy ≤ x) (H3 : Hp), Ext [] H2 H3 → H3 D = some (.lst zs) → Ams K H3 zs rs → 
          ∃ (n' : Nat) (zs' : List V) (rs' : List Rat) (u : Option V), [some (V.ref a), some (V.ref b), some (V.ref D), some (V.int (n : Int)), some y] = [some (V.ref a), some (V.ref b), some (V.ref D), some (V.int (n' : Int)), u] ∧ n' ≤ ps.length ∧ upd H3 D (.lst (zs ++ [y])) D = some (.lst zs') ∧ Ams K (upd H3 D (.lst (zs ++ [y]))) zs' rs' ∧ Mid ps qs n' (j + 1) rs' ∧ Ext [] H (upd H3 D (.lst (zs ++ [y]))) := by
        intro hx H3 e3 hz3 hr3
        have S3 : ∀ c ∈ [D], ∃ l, H3 c = some (.lst l) := fun c hc => by rw [List.mem_singleton.mp hc]; exact ⟨_, hz3⟩
        have e4 : Ext [D] H3 (upd H3 D (.lst (zs ++ [y]))) := Ext.refl.at_ List.mem_cons_self
        exact ⟨n, zs ++ [y], rs ++ [qy], some y, rfl, hn, upd_same, (hr3.x e4 S3).app (Ams.cons ((hqs.2 j y qy hy hqy |>.x0 (e1.trans e3)).x e4 S3) Ams.nil), m.snd ap aq hqy hx, (e1.trans e3).own hD⟩
      walk_at "go"
      try refine r_len (.inl (lst0 e1 ha)) ?_
      walk_at "go"
      refine r_dec (fun hlt => ?_) (fun hge => ?_)
      · have hlt' : n < ps.length := by omega
        have hxx := List.getElem?_eq_getElem (show n < xs.length by omega)
        generalize xs[n]'(by omega) = x at hxx
        obtain ⟨qx, hqx, ax⟩ := hps.at_ hxx
        have zx := zp qx (List.mem_of_getElem? hqx)
        walk_at "go"
        refine r_ixL (lst0 e1 ha) (at_n rfl hxx) ?_
        walk_at "go"
        refine k_cmp (ax.x0 e1) ((hqs.2 j y qy hy hqy).x0 e1) zx zy ?_
        walk_at "go"
        refine r_dec (fun hle => ?_) (fun hgt => ?_)
        · refine ⟨fun σ' H' => ∃ (zs : List V) (rs : List Rat), σ' = [some (V.ref a), some (V.ref b), some (V.ref D), some (V.int ((n + 1 : Nat) : Int)), some y] ∧ H' D = some (.lst zs) ∧ Ams K H' zs rs ∧ Mid ps qs (n + 1) j rs ∧ Ext [] H H', ?_, ?_⟩
          · rintro σ' H' ⟨zs, rs, rfl, h1, h2, h3, h4⟩
            exact ⟨ps.length - (n + 1), by omega, n + 1, zs, rs, rfl, rfl, hlt', h1, h2, h3, h4⟩
          · walk_at "go"
            refine ⟨ty_lst hz, ?_⟩
            walk_at "go"
            refine r_ixL (lst0 e1 ha) (at_n rfl hxx) ?_
            walk_at "go"
            try refine r_app hz (by omega) ?_
            walk_at "go"
            have S3 : ∀ c ∈ [D], ∃ l, H2 c = some (.lst l) := fun c hc => by rw [List.mem_singleton.mp hc]; exact ⟨_, hz⟩
            have e4 : Ext [D] H2 (upd H2 D (.lst (zs ++ [x]))) := Ext.refl.at_ List.mem_cons_self
            exact ⟨zs ++ [x], rs ++ [qx], rfl, upd_same, (hr.x e4 S3).app (Ams.cons ((ax.x0 e1).x e4 S3) Ams.nil), m.fst ap aq hqx hqy (cmpQ_le.mp hle), e1.own hD⟩
        · walk_at "go"
          refine ⟨ty_lst hz, ?_⟩
          walk_at "go"
          try refine r_app hz (by omega) ?_
          walk_at "go"
          refine fin (fun x hx => ?_) H2 Ext.refl hz hr
          rw [hqx] at hx
          cases hx
          have h := fun z => hgt (cmpQ_le.mpr z)
          exact Rat.not_lt.mp fun z => h (by grind)
      · walk_at "run"
        refine ⟨ty_lst hz, ?_⟩
        walk_at "go"
        try refine r_app hz (by omega) ?_
        walk_at "go"
        refine fin (fun x hx => ?_) H2 Ext.refl hz hr
        have := (List.getElem?_eq_some_iff.mp hx).1
        omega
    · rintro σ H1 ⟨n, zs, rs, u, rfl, hn, hz, hr, m, e1⟩
      have lx := hps.1
      have ly := hqs.1
      rw [ly] at m
      have lz : zs.length ≤ 3000 := by
        have h1 := m.perm.length_eq
        rw [List.length_append, List.length_take, List.length_take] at h1
        have h2 := hr.1
        omega
      walk_at "go"
      refine r_slList (lst0 e1 ha) fun p hp => ?_
      rw [cut_drop (by omega)]
      refine ⟨D, p, zs, xs.drop n, rfl, rfl, by rw [upd_ne (ne_of_none hz hp)]; exact hz, upd_same, Nat.le_trans (by rw [List.length_drop]; omega : zs.length + (xs.drop n).length ≤ 4000) (by decide), fun c hc => ?_⟩
      obtain ⟨m1, m2⟩ := m.done ap
      have e2 := (e1.new (o := .lst (xs.drop n)) hp).new (o := .lst (zs ++ xs.drop n)) hc
      have e3 := ((Ext.refl (S := []) (H := H1)).new (o := .lst (xs.drop n)) hp).new (o := .lst (zs ++ xs.drop n)) hc
      exact k c _ _ _ upd_same ((hr.x0 e3).app ((hps.drop n).x0 e2)) m1 m2 e2
def spAsc (K : PySem.W.Frag) : Nat → Sp
  | 0 => fun _ _ _ _ => False
  | n + 1 => fun vs H Q _ => ∃ (a : Addr) (xs : List V) (ps : List Rat), vs = [.ref a] ∧ SqL K H a xs ∧ Ams K H xs ps ∧ (∀ q ∈ ps, Sz 4000 q) ∧ ps.length ≤ 2 ^ n ∧ ps.length ≤ 500 ∧
    ∀ (c : Addr) (zs : List V) (rs : List Rat) H', H' c = some (.lst zs) → Ams K H' zs rs → rs.Perm ps → Asc rs → Ext [] H H' → Q (.ref c) H'
abbrev s_ascending : Stmt := top 27
theorem c_ascending : FnScope ["heights", "middle"] ["heights"] (defScope s_ascending) := ⟨rfl, rfl, rfl, by decide +kernel, rfl, by decide +kernel, by decide +kernel⟩
theorem f_ascending (F : FunD K "_ascending" "_ascending" (defArgs s_ascending) (defBody s_ascending) (defScope s_ascending) [] [] f fd) (hm : mg "_ascending" = some (.ref f)) (T : Bt mg) (n : Nat) (F_ascending : Fn P w K mg base (n + 2) "_ascending" (spAsc K n)) (F_merged : Fn P w K mg base 2 "_merged" (spMerged K)) : Fn P w K mg base (n+3) "_ascending" (spAsc K (n + 1)) := by
  refine fn_def F hm c_ascending (fun vs H Q E h => ?_) (fun _ _ _ _ _ _ us hl => match us, hl with | [_], _ => rfl) (fun cdv A outer s H vs Q E hr h => ?_)
  · obtain ⟨a, xs, ps, rfl, _⟩ := h
    rfl
  · obtain ⟨a, xs, ps, rfl, ha, hps, zp, l2, l5, k⟩ := h
    have nd := c_ascending.nd
    refine ⟨_, (pss_cons (ps_if (pt_cmpR op_lt (pe_callB cr_len (by rfl) T.len (by decide +kernel) (pa_cons (pv 0) pa_nil)) pe_int (nomark _))
        (pss_one (ps_ret (pe_callTy cr_list (by rfl) T.list (by decide +kernel) (pa_cons (pv 0) pa_nil))))
        pss_nil)
      (pss_cons (ps_set (i := 1) nd rfl (by first | exact Or.inl rfl | exact Or.inr rfl) (pe_op op_fdivW (pe_callB cr_len (by rfl) T.len (by decide +kernel) (pa_cons (pv 0) pa_nil)) pe_int))
      (pss_one (ps_ret (pe_fn F_merged (hr.mono (by omega)) (pa_cons (pe_fn F_ascending (hr.mono (Nat.le_refl _)) (pa_cons (pe_slice sl_list (pv 0) po_none (po_some (pv 1))) pa_nil)) (pa_cons (pe_fn F_ascending (hr.mono (Nat.le_refl _)) (pa_cons (pe_slice sl_list (pv 0) (po_some (pv 1)) po_none) pa_nil)) pa_nil))))))), ?_⟩
    show (_ : TS) _ [some _, none] _
    try dsimp only [cxOf, Cx.nox]
    have lx := hps.1
    walk_at "go"
    try refine r_len (.inl ha) ?_
    walk_at "go"
    refine r_dec (fun hlt => ?_) (fun hge => ?_)
    · walk_at "go"
      refine r_list (.inl ha) fun c hc => ?_
      walk_at "go"
      refine k c xs ps _ upd_same (hps.x0 (Ext.refl.new hc)) (List.Perm.refl _) ?_ (Ext.refl.new hc)
      match ps, lx with
      | [], _ => exact List.Pairwise.nil
      | [q], _ => exact List.pairwise_singleton _ _
      | _ :: _ :: _, h => simp at h; omega
    · walk_at "go"
      have hn : 1 ≤ n := by
        cases n with
        | zero => omega
        | succ n => omega
      obtain ⟨n, rfl⟩ : ∃ m, n = m + 1 := ⟨n - 1, by omega⟩
      have h2 : (2 : Nat) ^ (n + 1) = 2 * 2 ^ n := by rw [Nat.pow_succ]; omega
      have ed : (xs.length : Int) / 2 = ((xs.length / 2 : Nat) : Int) := by omega
      rw [ed]
      refine r_slList ha fun p hp => ?_
      rw [cut_take (by omega)]
      walk_at "go"
      have hs1 := hps.x0 (Ext.refl.new (o := .lst (xs.take (xs.length / 2))) hp)
      refine ⟨p, _, ps.take (xs.length / 2), rfl, lstS, hs1.take _, fun q hq => zp q (List.mem_of_mem_take hq), by rw [List.length_take]; omega, by rw [List.length_take]; omega, fun c1 zs1 rs1 H1 hc1 ha1 p1 as1 e1 => ?_⟩
      walk_at "go"
      have e01 := (Ext.refl.new (o := .lst (xs.take (xs.length / 2))) hp).trans e1
      refine r_slList (lst0 e01 ha) fun p' hp' => ?_
      rw [cut_drop (by omega)]
      walk_at "go"
      have e02 := e01.new (o := .lst (xs.drop (xs.length / 2))) hp'
      refine ⟨p', _, ps.drop (xs.length / 2), rfl, lstS, (hps.x0 e02).drop _, fun q hq => zp q (List.mem_of_mem_drop hq), by rw [List.length_drop]; omega, by rw [List.length_drop]; omega, fun c2 zs2 rs2 H2 hc2 ha2 p2 as2 e2 => ?_⟩
      walk_at "go"
      have e12 := (Ext.refl.new (S := []) (o := .lst (xs.drop (xs.length / 2))) hp').trans e2
      have zp1 : ∀ q ∈ rs1, Sz 4000 q := fun q hq => zp q (List.mem_of_mem_take (p1.subset hq))
      have zp2 : ∀ q ∈ rs2, Sz 4000 q := fun q hq => zp q (List.mem_of_mem_drop (p2.subset hq))
      have n1 := p1.length_eq
      have n2 := p2.length_eq
      rw [List.length_take] at n1
      rw [List.length_drop] at n2
      refine ⟨c1, c2, zs1, zs2, rs1, rs2, rfl, lst0 e12 (.inl (.inl hc1)), .inl (.inl hc2), ha1.x0 e12, ha2, as1, as2, zp1, zp2, by omega, by omega, fun c zs rs H3 hc h3 p3 as3 e3 => ?_⟩
      walk_at "go"
      refine k c zs rs H3 hc h3 (p3.trans ?_) as3 (((Ext.refl.new hp).trans e1).trans (e12.trans e3))
      have := p1.append p2
      rw [List.take_append_drop] at this
      exact this
end
end Yk

set_option maxHeartbeats 4000000
namespace Yk
open PySem PySem.Spec PyProof.Rows L2

def pbrk (r : Row) : List Rat := match r.man with
  | none => []
  | some (l, m) => [l / (r.w : Rat), m / (r.w : Rat), r.b]
def allBrk (rows : List Row) (top : Rat) : List Rat := (0 :: top :: rows.flatMap pbrk).filter fun q => decide (q ≤ top)
structure LevOk (D E M B : Nat) (rows : List Row) (goal top : Rat) : Prop where
  D0 : 0 < D
  row : ∀ r ∈ rows, RowOk D M r
  n : rows.length ≤ 8
  de : D * 27720 ∣ E
  E0 : 0 < E
  E9 : E ≤ 2 ^ 140
  B9 : B ≤ 2 ^ 20
  MB : 8 * M ≤ B
  goal : In E B goal
  top : In E M top
section
variable {D E M B : Nat} {rows : List Row} {goal top : Rat}
theorem LevOk.rowE (h : LevOk D E M B rows goal top) : ∀ r ∈ rows, RowOk E M r := fun r hr => (h.row r hr).up (Nat.dvd_trans (Nat.dvd_mul_right _ _) h.de)
theorem LevOk.brk (h : LevOk D E M B rows goal top) : ∀ r ∈ rows, ∀ p ∈ pbrk r, In E M p := fun r hr p hp => by
  have h1 := in_brk (h.row r hr)
  unfold pbrk at hp
  unfold Row.brk at h1
  split at hp
  · cases hp
  · rename_i l m e
    rw [e] at h1
    exact (h1 p hp).up h.de
theorem LevOk.all (h : LevOk D E M B rows goal top) : ∀ p ∈ allBrk rows top, In E M p ∧ p ≤ top := fun p hp => by
  obtain ⟨h1, h2⟩ := List.mem_filter.mp hp
  have h3 : p ≤ top := of_decide_eq_true h2
  refine ⟨?_, h3⟩
  rcases List.mem_cons.mp h1 with rfl | h1
  · exact In.zero
  · rcases List.mem_cons.mp h1 with rfl | h1
    · exact h.top
    · obtain ⟨r, hr, hp⟩ := List.mem_flatMap.mp h1
      exact h.brk r hr p hp
theorem LevOk.tot (h : LevOk D E M B rows goal top) {X N : Nat} {x : Rat} (hx : In X N x) (he : E ∣ X) : In X B (tot rows x) :=
  (tot_in hx fun r hr => (h.rowE r hr).up he).most (Nat.le_trans (Nat.mul_le_mul_right M h.n) h.MB)
theorem LevOk.M9 (h : LevOk D E M B rows goal top) : M ≤ 2 ^ 20 := by have := h.MB; have := h.B9; omega
theorem zero_mem (h : LevOk D E M B rows goal top) : (0 : Rat) ∈ allBrk rows top := List.mem_filter.mpr ⟨List.mem_cons_self, decide_eq_true h.top.nn⟩
theorem top_mem : top ∈ allBrk rows top := List.mem_filter.mpr ⟨List.mem_cons_of_mem _ List.mem_cons_self, decide_eq_true Rat.le_refl⟩
/-- where the goal is reached first -/
structure First (T : Rat → Rat) (goal : Rat) (rs : List Rat) (n : Nat) : Prop where
  le : n ≤ rs.length
  lo : ∀ k q, n = k + 1 → rs[k]? = some q → T q < goal
  hi : ∀ q, rs[n]? = some q → goal ≤ T q
variable {rs : List Rat} {n : Nat}
theorem first_top (h : LevOk D E M B rows goal top) (p : rs.Perm (allBrk rows top)) (as : Asc rs) (f : First (Yk.tot rows) goal rs rs.length) : IsLev (Yk.tot rows) top goal top := by
  refine lev_top (fun x y => tot_mono rows) h.top.nn ?_
  obtain ⟨i, hi⟩ := List.getElem?_of_mem (p.symm.subset (top_mem (rows := rows) (top := top)))
  have hil := (List.getElem?_eq_some_iff.mp hi).1
  have hk := List.getElem?_eq_getElem (show rs.length - 1 < rs.length by omega)
  have h1 := asc_get as hi hk (by omega)
  have h2 := (h.all _ (p.subset (List.mem_of_getElem? hk))).2
  have e : rs[rs.length - 1]'(by omega) = top := by grind
  rw [e] at hk
  exact f.lo (rs.length - 1) top (by omega) hk
theorem first_zero (h : LevOk D E M B rows goal top) (p : rs.Perm (allBrk rows top)) (as : Asc rs) (f : First (Yk.tot rows) goal rs 0) {q : Rat} (hq : rs[0]? = some q) : q = 0 ∧ IsLev (Yk.tot rows) top goal 0 := by
  obtain ⟨i, hi⟩ := List.getElem?_of_mem (p.symm.subset (zero_mem h))
  have h1 := asc_get as hq hi (Nat.zero_le _)
  have h2 := (h.all q (p.subset (List.mem_of_getElem? hq))).1.nn
  have e : q = 0 := by grind
  subst e
  exact ⟨rfl, lev_zero h.top.nn (f.hi _ hq)⟩
theorem first_mid (h : LevOk D E M B rows goal top) (p : rs.Perm (allBrk rows top)) (as : Asc rs) (f : First (Yk.tot rows) goal rs (n + 1)) {l u : Rat} (hl : rs[n]? = some l) (hu : rs[n + 1]? = some u) :
    Yk.tot rows l < goal ∧ goal ≤ Yk.tot rows u ∧ In E M l ∧ In E M u ∧ l ≤ u ∧ u ≤ top ∧ Lin (Yk.tot rows) l u := by
  have hlu := asc_get as hl hu (by omega)
  have il := h.all l (p.subset (List.mem_of_getElem? hl))
  have iu := h.all u (p.subset (List.mem_of_getElem? hu))
  refine ⟨f.lo n l rfl hl, f.hi u hu, il.1, iu.1, hlu, iu.2, lin_tot rows (fun r hr => (h.row r hr).w0) hlu fun r hr hm q hq => ?_⟩
  by_cases hqt : q ≤ top
  · have hq2 : q ∈ pbrk r := by
      unfold pbrk
      unfold Row.brk at hq
      split
      · rename_i e
        exact absurd e hm
      · rename_i l m e
        rw [e] at hq
        exact hq
    have hqa : q ∈ allBrk rows top := List.mem_filter.mpr ⟨List.mem_cons_of_mem _ (List.mem_cons_of_mem _ (List.mem_flatMap.mpr ⟨r, hr, hq2⟩)), decide_eq_true hqt⟩
    obtain ⟨i, hi⟩ := List.getElem?_of_mem (p.symm.subset hqa)
    rcases Nat.lt_or_ge n i with hni | hni
    · exact .inr (asc_get as hu hi hni)
    · exact .inl (asc_get as hi hl hni)
  · have := iu.2
    exact .inr (by grind)
end
section
variable {P : Program} {w : World} {K : PySem.W.Frag} {mg : Str → Option Value} {base : Heap} {f : Addr} {fd : FuncData}
def spBreaks (K : PySem.W.Frag) : Sp := fun vs H Q _ => ∃ (a : Addr) (t : V) (xs : List V) (rows : List Row) (D E M B : Nat) (goal top : Rat), vs = [.ref a, t] ∧ SqQ K H a xs ∧ RowsIs K H xs rows ∧ Am K H t top ∧ LevOk D E M B rows goal top ∧
  ∀ (c : Addr) (zs : List V) (rs : List Rat) H', H' c = some (.lst zs) → Ams K H' zs rs → rs.Perm (allBrk rows top) → Asc rs → Ext [] H H' → Q (.ref c) H'
theorem flat_take {rows : List Row} {i : Nat} {r : Row} (h : rows[i]? = some r) : (rows.take (i + 1)).flatMap pbrk = (rows.take i).flatMap pbrk ++ pbrk r := by
  obtain ⟨hl, e⟩ := List.getElem?_eq_some_iff.mp h
  rw [← List.take_append_getElem hl, List.flatMap_append, e]
  simp
theorem pbrk_len (r : Row) : (pbrk r).length ≤ 3 := by unfold pbrk; split <;> simp
theorem flat_len : ∀ (rows : List Row), (rows.flatMap pbrk).length ≤ 3 * rows.length
  | [] => by simp
  | r :: t => by
    have := flat_len t
    have := pbrk_len r
    rw [List.flatMap_cons, List.length_append, List.length_cons]
    omega
theorem k_over' {H : Hp} {Q : VK} {E : XK} {v1 v2 : V} {p : Rat} {wt : Nat} (a1 : Am K H v1 p) (a2 : Am K H v2 (wt : Rat)) (h0 : 0 < wt) (h12 : wt ≤ 12) (z1 : Sz 4000 p) (k : ∀ v H', Ext [] H H' → Am K H' v (p / (wt : Rat)) → Q v H') : spOver K [v1, v2] H Q E :=
  k_over a1 a2 (natP h0) z1 ((sz_nat (m := 4) (by omega) (by decide)).mono (by decide)) k
abbrev s_breaks : Stmt := top 24
theorem c_breaks : FnScope ["wishes", "top", "found", "manner", "weight", "bound", "height"] ["wishes", "top"] (defScope s_breaks) := ⟨rfl, rfl, rfl, by decide +kernel, rfl, by decide +kernel, by decide +kernel⟩
theorem f_breaks (F : FunD K "_breaks" "_breaks" (defArgs s_breaks) (defBody s_breaks) (defScope s_breaks) [] [] f fd) (hm : mg "_breaks" = some (.ref f)) (T : Bt mg) (TZ : ∃ z, mg "ZERO" = some (.ref z) ∧ ∀ H, SqT K H z [.int 0, .int 1]) (Fover : Fn P w K mg base 2 "over" (spOver K)) (Fcompare : Fn P w K mg base 1 "compare" (spCompare K)) (F_ascending : Fn P w K mg base 8 "_ascending" (spAsc K 6)) : Fn P w K mg base 9 "_breaks" (spBreaks K) := by
  refine fn_def F hm c_breaks (fun vs H Q E h => ?_) (fun _ _ _ _ _ _ us hl => match us, hl with | [_, _], _ => rfl) (fun cdv A outer s H vs Q E hr h => ?_)
  · obtain ⟨a, t, xs, rows, D, E, M, B, goal, top, rfl, _⟩ := h
    rfl
  · obtain ⟨a, t, xs, rows, D, E, M, B, goal, top, rfl, ha, hrows, ht, L, k⟩ := h
    have nd := c_breaks.nd
    obtain ⟨z, mz, hz⟩ := TZ
    refine ⟨_, (pss_cons (ps_set (i := 2) nd rfl (by first | exact Or.inl rfl | exact Or.inr rfl) (pe_lst (pa_cons (pe_glob (v := .ref z) rfl mz rfl) (pa_cons (pv 1) pa_nil))))
      (pss_mid (ps_for PassesOwn.never rfl (pi_seq (pv 0)) (pg_tup rfl (pgs_cons (pg_name (i := 3) nd rfl (by first | exact Or.inl rfl | exact Or.inr rfl)) (pgs_cons (pg_name (i := 4) nd rfl (by first | exact Or.inl rfl | exact Or.inr rfl)) (pgs_cons (pg_name (i := 5) nd rfl (by first | exact Or.inl rfl | exact Or.inr rfl)) pgs_nil))))
        (pss_one (ps_if (pt_cmpR (op_neD hr.units) (pv 3) (pe_tup pa_nil) (nomark _))
          (pss_cons (ps_expr (pe_bm PySem.F.plainAttrs_list PySem.F.slot_list_append PySem.F.type_list_append mt_append (pv 2) (pa_cons (pe_fn Fover (hr.mono (by decide)) (pa_cons (pe_ix ix_tup (pv 3) pe_int (fun _ _ => rfl)) (pa_cons (pe_tup (pa_cons (pv 4) (pa_cons pe_int pa_nil))) pa_nil))) pa_nil)))
          (pss_cons (ps_expr (pe_bm PySem.F.plainAttrs_list PySem.F.slot_list_append PySem.F.type_list_append mt_append (pv 2) (pa_cons (pe_fn Fover (hr.mono (by decide)) (pa_cons (pe_ix ix_tup (pv 3) pe_int (fun _ _ => rfl)) (pa_cons (pe_tup (pa_cons (pv 4) (pa_cons pe_int pa_nil))) pa_nil))) pa_nil)))
          (pss_one (ps_expr (pe_bm PySem.F.plainAttrs_list PySem.F.slot_list_append PySem.F.type_list_append mt_append (pv 2) (pa_cons (pv 5) pa_nil))))))
          pss_nil)))
      (pss_one (ps_ret (pe_fn F_ascending (hr.mono (by decide)) (pa_cons (pe_lc (own := [("height", 6)]) (g := gName 6) rfl nd (pi_list (pv 2)) (blkOk_by (N := ["wishes", "top", "found", "manner", "weight", "bound", "height"]) (sc := defScope s_breaks) (by decide +kernel)) (fun _ _ _ _ _ => pg_name (i := 6) nd rfl (Or.inl rfl)) (fun _ _ _ _ _ => (pts_one (pt_cmpR op_le (pe_fn Fcompare (hr.mono (by decide)) (pa_cons (pv 6) (pa_cons (pv 1) pa_nil))) pe_int (nomark _)))) (fun _ _ _ _ _ => (pv 6))) pa_nil)))))), ?_⟩
    show (_ : TS) _ [some _, some _, none, none, none, none, none] _
    try dsimp only [cxOf, Cx.nox]
    walk_at "go"
    rename_i c hc
    have a0 : Am K (upd H c (.lst [.ref z, t])) (.ref z) 0 := ⟨z, rfl, hz _⟩
    have t0 := ht.x0 (Ext.refl.new (o := .lst [.ref z, t]) hc)
    refine r_mid (fun σ' H' => ∃ (zs : List V) (u3 u4 u5 : Option V), σ' = [some (V.ref a), some t, some (V.ref c), u3, u4, u5, none] ∧ H' c = some (.lst zs) ∧ Ams K H' zs (0 :: top :: rows.flatMap pbrk) ∧ Ext [] H H') ?_ ?_
    · have lr := hrows.1
      have nr := L.n
      refine r_forQ (xs := xs) rfl ha (kp0 (Ext.refl.new hc)) (fun i σ' H' => ∃ (zs : List V) (u3 u4 u5 : Option V), σ' = [some (V.ref a), some t, some (V.ref c), u3, u4, u5, none] ∧ H' c = some (.lst zs) ∧ Ams K H' zs (0 :: top :: (rows.take i).flatMap pbrk) ∧ Ext [] H H')
        ⟨_, none, none, none, rfl, upd_same, Ams.cons a0 (Ams.cons t0 Ams.nil), Ext.refl.new hc⟩ ?_ ?_ ?_
      · rintro i σ' H' hi ⟨zs, u3, u4, u5, rfl, h1, h2, e⟩
        exact kp0 e
      · rintro i y σ' H1 hy ⟨zs, u3, u4, u5, rfl, h1, h2, e1⟩
        obtain ⟨r, hr, hrow⟩ := hrows.at_ hy
        have hrm := List.mem_of_getElem? hr
        have ro := L.row r hrm
        have hil := (List.getElem?_eq_some_iff.mp hr).1
        obtain ⟨at_, mv, bv, rfl, htt, hman, hb⟩ := hrow.x0 e1
        have lz : zs.length ≤ 30 := by
          have q1 := h2.1
          have q2 := flat_len (rows.take i)
          rw [List.length_cons, List.length_cons] at q1
          rw [List.length_take] at q2
          omega
        have S : ∀ (l : List V) (H2 : Hp), H2 c = some (.lst l) → ∀ x ∈ [c], ∃ l, H2 x = some (.lst l) := fun l H2 h x hx => by rw [List.mem_singleton.mp hx]; exact ⟨l, h⟩
        have fl := flat_take hr
        walk_at "go"
        refine ne_man (hman.x0 (Ext.refl.new (by assumption))) tupS ?_
        walk_at "go"
        obtain ⟨man, wt, bd⟩ := r
        cases man with
        | none =>
          walk_at "run"
          refine ⟨zs, _, _, _, rfl, by rw [upd_ne (ne_of_none h1 (by assumption))]; exact h1, ?_, e1.new (by assumption)⟩
          rw [fl]
          show Ams K _ zs (0 :: top :: (_ ++ []))
          rw [List.append_nil]
          exact h2.x0 (Ext.refl.new (by assumption))
        | some p =>
          obtain ⟨l, u⟩ := p
          obtain ⟨al, au⟩ := ro.m l u rfl
          have sl : Sz 4000 l := (al.up (Nat.dvd_trans (Nat.dvd_mul_right _ _) L.de)).sz L.E0 L.E9 L.M9 |>.mono (by decide)
          have su : Sz 4000 u := (au.up (Nat.dvd_trans (Nat.dvd_mul_right _ _) L.de)).sz L.E0 L.E9 L.M9 |>.mono (by decide)
          obtain ⟨am, v1, v2, rfl, hm2, a1, a2⟩ := hman
          walk_at "run"
          have h1' : upd H1 _ (.tup []) c = some (.lst zs) := (Ext.refl (S := [])).new (by assumption) _ _ h1 fun z => nomatch z
          have en := (Ext.refl (S := []) (H := H1)).new (o := .tup []) (by assumption)
          generalize upd H1 _ (HO.tup []) = H2 at *
          refine ⟨ty_lst h1', ?_⟩
          walk_at "go"
          refine k_over' (a1.x0 (en.new (by assumption))) (am_nat tupS) ro.w0 ro.w12 sl fun v3 H3 n3 a3 => ?_
          walk_at "go"
          have h3 : H3 c = some (.lst zs) := n3 _ _ (by rw [upd_ne (ne_of_none h1' (by assumption))]; exact h1') fun z => nomatch z
          have e3 := en.trans ((Ext.refl.new (by assumption)).trans n3)
          have am3 := ((h2.x0 e3).w (l' := zs ++ [v3]) h3).app (Ams.cons (a3.w h3) Ams.nil)
          have a23 := (a2.x0 e3).w (l' := zs ++ [v3]) h3
          have hm3 := tupW (l' := zs ++ [v3]) (tup0 e3 hm2) h3
          have b3 := (hb.x0 e3).w (l' := zs ++ [v3]) h3
          have ex3 := (e1.trans e3).own (o := .lst (zs ++ [v3])) hc
          try refine r_app h3 (by omega) ?_
          walk_at "go"
          have h4 : upd H3 c (.lst (zs ++ [v3])) c = some (.lst (zs ++ [v3])) := upd_same
          generalize upd H3 c (HO.lst (zs ++ [v3])) = H4 at *
          refine ⟨ty_lst h4, ?_⟩
          walk_at "go"
          refine k_over' (a23.x0 (Ext.refl.new (by assumption))) (am_nat tupS) ro.w0 ro.w12 su fun v5 H5 n5 a5 => ?_
          walk_at "go"
          have e5 := (Ext.refl.new (S := []) (by assumption)).trans n5
          have h5 : H5 c = some (.lst (zs ++ [v3])) := e5 _ _ h4 fun z => nomatch z
          have lz3 : (zs ++ [v3]).length ≤ 31 := by rw [List.length_append]; exact Nat.add_le_add_right lz 1
          try refine r_app h5 (by omega) ?_
          walk_at "go"
          have am5 := ((am3.x0 e5).w (l' := zs ++ [v3] ++ [v5]) h5).app (Ams.cons (a5.w h5) Ams.nil)
          have b5 := (b3.x0 e5).w (l' := zs ++ [v3] ++ [v5]) h5
          have ex5 := (ex3.trans e5).own (o := .lst (zs ++ [v3] ++ [v5])) hc
          have h6 : upd H5 c (.lst (zs ++ [v3] ++ [v5])) c = some (.lst (zs ++ [v3] ++ [v5])) := upd_same
          generalize upd H5 c (HO.lst (zs ++ [v3] ++ [v5])) = H6 at *
          refine ⟨ty_lst h6, ?_⟩
          walk_at "go"
          have lz5 : (zs ++ [v3] ++ [v5]).length ≤ 32 := by rw [List.length_append]; exact Nat.add_le_add_right lz3 1
          try refine r_app h6 (by omega) ?_
          walk_at "go"
          refine ⟨zs ++ [v3] ++ [v5] ++ [bv], _, _, _, rfl, upd_same, ?_, ex5.own hc⟩
          have am7 := (am5.w (l' := zs ++ [v3] ++ [v5] ++ [bv]) h6).app (Ams.cons (b5.w h6) Ams.nil)
          rw [fl]
          have eq : (0 :: top :: ((rows.take i).flatMap pbrk ++ pbrk ⟨some (l, u), wt, bd⟩)) = 0 :: top :: (rows.take i).flatMap pbrk ++ [l / (wt : Rat)] ++ [u / (wt : Rat)] ++ [bd] := by
            show _ = _
            simp [pbrk]
          rw [eq]
          exact am7
      · rintro σ' H' ⟨zs, u3, u4, u5, rfl, h1, h2, e⟩
        rw [lr, List.take_length] at h2
        exact ⟨zs, u3, u4, u5, rfl, h1, h2, e⟩
    · rintro σ' H1 ⟨zs, u3, u4, u5, rfl, h1, h2, e1⟩
      walk_at "go"
      refine ⟨c, rfl, ⟨_, .inl (.inl h1)⟩, fun d hd => ?_⟩
      have ndc : d ≠ c := fun z => by rw [z, h1] at hd; cases hd
      have lz : zs.length ≤ 30 := by
        have q1 := h2.1
        have q2 := flat_len rows
        have q3 := L.n
        rw [List.length_cons, List.length_cons] at q1
        omega
      have hin : ∀ p ∈ (0 : Rat) :: top :: rows.flatMap pbrk, In E M p := fun p hp => by
        rcases List.mem_cons.mp hp with rfl | hp
        · exact In.zero
        · rcases List.mem_cons.mp hp with rfl | hp
          · exact L.top
          · obtain ⟨r, hr, hp⟩ := List.mem_flatMap.mp hp
            exact L.brk r hr p hp
      refine r_lcL (xs := zs) (fun i H2 => ∃ acc : List V, H2 d = some (.lst acc) ∧ acc.length ≤ i ∧ Ams K H2 acc (((0 :: top :: rows.flatMap pbrk).take i).filter fun q => decide (q ≤ top)) ∧ Ext [] H1 H2)
        ⟨[], upd_same, Nat.le_refl _, Ams.nil, Ext.refl.new hd⟩ ?_ ?_ ?_
      · rintro i H2 hi ⟨acc, q1, q2, q3, q4⟩
        exact .inl (.inl (q4 _ _ h1 fun z => nomatch z))
      · rintro i y H2 hy ⟨acc, q1, q2, q3, q4⟩
        have hil := (List.getElem?_eq_some_iff.mp hy).1
        obtain ⟨q, hq, aq⟩ := h2.at_ hy
        have iq := hin q (List.mem_of_getElem? hq)
        walk_at "go"
        refine ⟨rfl, ?_⟩
        walk_at "go"
        refine k_cmp (aq.x0 q4) (ht.x0 (e1.trans q4)) ((iq.sz L.E0 L.E9 L.M9).mono (by decide)) ((L.top.sz L.E0 L.E9 L.M9).mono (by decide)) ?_
        walk_at "go"
        have tg := take_get hq
        refine r_dec (fun hle => ?_) (fun hgt => ?_)
        · walk_at "go"
          refine ⟨acc, q1, Nat.lt_of_le_of_lt (by omega : acc.length ≤ 4000) (by decide), acc ++ [y], upd_same, by rw [List.length_append]; exact Nat.add_le_add_right q2 1, ?_, q4.own hd⟩
          rw [tg, List.filter_append, show [q].filter (fun q => decide (q ≤ top)) = [q] by simp [cmpQ_le.mp hle]]
          exact (q3.w q1).app (Ams.cons ((aq.x0 q4).w q1) Ams.nil)
        · refine ⟨acc, q1, by omega, ?_, q4⟩
          rw [tg, List.filter_append, show [q].filter (fun q => decide (q ≤ top)) = [] by simpa using fun z => hgt (cmpQ_le.mpr z), List.append_nil]
          exact q3
      · rintro H2 ⟨acc, q1, q2, q3, q4⟩
        walk_at "go"
        have lx := h2.1
        rw [lx, List.take_length] at q3
        have q3 : Ams K H2 acc (allBrk rows top) := q3
        have l3 := q3.1
        refine ⟨d, acc, allBrk rows top, rfl, .inl (.inl q1), q3, fun q hq => ((L.all q hq).1.sz L.E0 L.E9 L.M9).mono (by decide), ?_, ?_, fun c' zs' rs' H' hc' ha' p' as' e' => ?_⟩
        · rw [← l3]
          exact Nat.le_trans (by omega : acc.length ≤ 32) (by decide)
        · rw [← l3]
          omega
        · exact k c' zs' rs' H' hc' ha' p' as' ((e1.trans q4).trans e')
def spFirst (K : PySem.W.Frag) : Sp := fun vs H Q _ => ∃ (g : V) (a c : Addr) (xs zs : List V) (rows : List Row) (rs : List Rat) (D E M B : Nat) (goal top : Rat), vs = [g, .ref a, .ref c] ∧ SqQ K H a xs ∧ RowsIs K H xs rows ∧ Am K H g goal ∧ LevOk D E M B rows goal top ∧ SqL K H c zs ∧ Ams K H zs rs ∧ (∀ q ∈ rs, In E M q) ∧ rs.length ≤ 500 ∧
  ∀ (n : Nat) H', First (tot rows) goal rs n → Ext [] H H' → Q (.int (n : Int)) H'
theorem LevOk.ok {D E M B : Nat} {rows : List Row} {goal top : Rat} (L : LevOk D E M B rows goal top) {q : Rat} (h : In E M q) : TotOk E M M rows q :=
  ⟨L.E0, Nat.le_trans L.E9 (Nat.pow_le_pow_right (by decide) (by decide)), L.M9, Nat.le_trans L.M9 (by decide), L.rowE, h, L.n⟩
abbrev s_first_reaching : Stmt := top 25
theorem c_first_reaching : FnScope ["goal", "wishes", "breaks", "low", "high", "middle"] ["goal", "wishes", "breaks"] (defScope s_first_reaching) := ⟨rfl, rfl, rfl, by decide +kernel, rfl, by decide +kernel, by decide +kernel⟩
theorem f_first_reaching (F : FunD K "_first_reaching" "_first_reaching" (defArgs s_first_reaching) (defBody s_first_reaching) (defScope s_first_reaching) [] [] f fd) (hm : mg "_first_reaching" = some (.ref f)) (T : Bt mg) (Ftotal : Fn P w K mg base 4 "total" (spTotal K)) (Fcompare : Fn P w K mg base 1 "compare" (spCompare K)) : Fn P w K mg base 5 "_first_reaching" (spFirst K) := by
  refine fn_def F hm c_first_reaching (fun vs H Q E h => ?_) (fun _ _ _ _ _ _ us hl => match us, hl with | [_, _, _], _ => rfl) (fun cdv A outer s H vs Q E hr h => ?_)
  · obtain ⟨g, a, c, xs, zs, rows, rs, D, E, M, B, goal, top, rfl, _⟩ := h
    rfl
  · obtain ⟨g, a, c, xs, zs, rows, rs, D, E, M, B, goal, top, rfl, ha, hrows, hg, L, hc, hrs, hin, l5, k⟩ := h
    have nd := c_first_reaching.nd
    refine ⟨_, (pss_cons (ps_set (i := 3) nd rfl (by first | exact Or.inl rfl | exact Or.inr rfl) pe_int)
      (pss_cons (ps_set (i := 4) nd rfl (by first | exact Or.inl rfl | exact Or.inr rfl) (pe_callB cr_len (by rfl) T.len (by decide +kernel) (pa_cons (pv 2) pa_nil)))
      (pss_cons (ps_while PassesOwn.never (pt_cmpR op_lt (pv 3) (pv 4) (nomark _))
        (pss_cons (ps_set (i := 5) nd rfl (by first | exact Or.inl rfl | exact Or.inr rfl) (pe_op op_fdivW (pe_op op_add (pv 3) (pv 4)) pe_int))
        (pss_one (ps_if (pt_cmpR op_lt (pe_fn Fcompare (hr.mono (by decide)) (pa_cons (pe_fn Ftotal (hr.mono (by decide)) (pa_cons (pv 1) (pa_cons (pe_ix ix_list (pv 2) (pv 5) (fun _ _ => rfl)) pa_nil))) (pa_cons (pv 0) pa_nil))) pe_int (nomark _))
          (pss_one (ps_set (i := 3) nd rfl (by first | exact Or.inl rfl | exact Or.inr rfl) (pe_op op_add (pv 5) pe_int)))
          (pss_one (ps_set (i := 4) nd rfl (by first | exact Or.inl rfl | exact Or.inr rfl) (pv 5)))))))
      (pss_one (ps_ret (pv 3)))))), ?_⟩
    show (_ : TS) _ [some _, some _, some _, none, none, none] _
    try dsimp only [cxOf, Cx.nox]
    have lz := hrs.1
    walk_at "go"
    refine r_while (fun m σ H1 => ∃ (lo hi : Nat) (u : Option V), m = hi - lo ∧ σ = [some g, some (V.ref a), some (V.ref c), some (V.int (lo : Int)), some (V.int (hi : Int)), u] ∧ lo ≤ hi ∧ hi ≤ rs.length ∧ (∀ k q, lo = k + 1 → rs[k]? = some q → tot rows q < goal) ∧ (∀ q, rs[hi]? = some q → goal ≤ tot rows q) ∧ Ext [] H H1)
      rs.length ⟨0, rs.length, none, rfl, by rw [← lz]; rfl, Nat.zero_le _, Nat.le_refl _, fun k q z => (nomatch z), fun q z => by simp at z, Ext.refl⟩ ?_
    rintro m σ H1 ⟨lo, hi, u, rfl, rfl, h1, h2, h3, h4, e1⟩
    walk_at "go"
    refine r_dec (fun hlt => ?_) (fun hge => ?_)
    · have ed : ((lo : Int) + (hi : Int)) / 2 = (((lo + hi) / 2 : Nat) : Int) := by omega
      have hm : (lo + hi) / 2 < zs.length := by omega
      have hmz := List.getElem?_eq_getElem hm
      generalize hv : zs[(lo + hi) / 2]'hm = v at hmz
      obtain ⟨q, hq, aq⟩ := hrs.at_ hmz
      have iq := hin q (List.mem_of_getElem? hq)
      refine ⟨fun σ' H' => ∃ (lo' hi' : Nat) (u : Option V), hi' - lo' < hi - lo ∧ σ' = [some g, some (V.ref a), some (V.ref c), some (V.int (lo' : Int)), some (V.int (hi' : Int)), u] ∧ lo' ≤ hi' ∧ hi' ≤ rs.length ∧ (∀ k q, lo' = k + 1 → rs[k]? = some q → tot rows q < goal) ∧ (∀ q, rs[hi']? = some q → goal ≤ tot rows q) ∧ Ext [] H H', ?_, ?_⟩
      · rintro σ' H' ⟨lo', hi', u, z1, z2, z3⟩
        exact ⟨hi' - lo', z1, lo', hi', u, rfl, z2, z3⟩
      · walk_at "go"
        rw [ed]
        refine r_ixL (lst0 e1 hc) (at_n rfl hmz) ?_
        walk_at "go"
        refine ⟨a, xs, rows, v, q, E, M, M, rfl, sqq0 e1 ha, hrows.x0 e1, aq.x0 e1, L.ok iq, fun v2 H2 n2 a2 => ?_⟩
        walk_at "go"
        refine k_cmp a2 (hg.x0 (e1.trans n2)) (((L.tot iq (Nat.dvd_refl _)).sz L.E0 L.E9 L.B9).mono (by decide)) ((L.goal.sz L.E0 L.E9 L.B9).mono (by decide)) ?_
        walk_at "go"
        refine r_dec (fun hl => ?_) (fun hg => ?_)
        · walk_at "go"
          refine ⟨(lo + hi) / 2 + 1, hi, _, by omega, rfl, by omega, h2, fun k q' z1 z2 => ?_, h4, e1.trans n2⟩
          have : k = (lo + hi) / 2 := by omega
          subst this
          rw [hq] at z2
          cases z2
          exact cmpQ_lt.mp hl
        · walk_at "go"
          refine ⟨lo, (lo + hi) / 2, _, by omega, rfl, by omega, by omega, h3, fun q' z2 => ?_, e1.trans n2⟩
          rw [hq] at z2
          cases z2
          exact Rat.not_lt.mp fun z => hg (cmpQ_lt.mpr z)
    · have : lo = hi := by omega
      subst this
      walk_at "go"
      exact k lo H1 ⟨h2, h3, h4⟩ e1
def spOnLine (K : PySem.W.Frag) : Sp := fun vs H Q _ => ∃ (g vl vu : V) (a : Addr) (xs : List V) (rows : List Row) (D E M B : Nat) (goal top l u : Rat), vs = [g, .ref a, vl, vu] ∧ SqQ K H a xs ∧ RowsIs K H xs rows ∧ Am K H g goal ∧ LevOk D E M B rows goal top ∧ Am K H vl l ∧ Am K H vu u ∧ In E M l ∧ In E M u ∧ l ≤ u ∧ tot rows l < goal ∧ goal ≤ tot rows u ∧ RetAm K H Q (onl (tot rows) goal l u)
abbrev s_on_line : Stmt := top 26
theorem c_on_line : FnScope ["goal", "wishes", "left", "right", "start", "rise", "part"] ["goal", "wishes", "left", "right"] (defScope s_on_line) := ⟨rfl, rfl, rfl, by decide +kernel, rfl, by decide +kernel, by decide +kernel⟩
theorem f_on_line (F : FunD K "_on_line" "_on_line" (defArgs s_on_line) (defBody s_on_line) (defScope s_on_line) [] [] f fd) (hm : mg "_on_line" = some (.ref f)) (Ftotal : Fn P w K mg base 4 "total" (spTotal K)) (Fminus : Fn P w K mg base 2 "minus" (spMinus K)) (Fover : Fn P w K mg base 2 "over" (spOver K)) (Ftimes : Fn P w K mg base 2 "times" (spTimes K)) (Fplus : Fn P w K mg base 2 "plus" (spPlus K)) : Fn P w K mg base 5 "_on_line" (spOnLine K) := by
  refine fn_def F hm c_on_line (fun vs H Q E h => ?_) (fun _ _ _ _ _ _ us hl => match us, hl with | [_, _, _, _], _ => rfl) (fun cdv A outer s H vs Q E hr h => ?_)
  · obtain ⟨g, vl, vu, a, xs, rows, D, E, M, B, goal, top, l, u, rfl, _⟩ := h
    rfl
  · obtain ⟨g, vl, vu, a, xs, rows, D, E, M, B, goal, top, l, u, rfl, ha, hrows, hg, L, hl, hu, il, iu, lu, g1, g2, k⟩ := h
    have nd := c_on_line.nd
    refine ⟨_, (pss_cons (ps_set (i := 4) nd rfl (by first | exact Or.inl rfl | exact Or.inr rfl) (pe_fn Ftotal (hr.mono (by decide)) (pa_cons (pv 1) (pa_cons (pv 2) pa_nil))))
      (pss_cons (ps_set (i := 5) nd rfl (by first | exact Or.inl rfl | exact Or.inr rfl) (pe_fn Fminus (hr.mono (by decide)) (pa_cons (pe_fn Ftotal (hr.mono (by decide)) (pa_cons (pv 1) (pa_cons (pv 3) pa_nil))) (pa_cons (pv 4) pa_nil))))
      (pss_cons (ps_set (i := 6) nd rfl (by first | exact Or.inl rfl | exact Or.inr rfl) (pe_fn Fover (hr.mono (by decide)) (pa_cons (pe_fn Fminus (hr.mono (by decide)) (pa_cons (pv 0) (pa_cons (pv 4) pa_nil))) (pa_cons (pv 5) pa_nil))))
      (pss_one (ps_ret (pe_fn Fplus (hr.mono (by decide)) (pa_cons (pv 2) (pa_cons (pe_fn Ftimes (hr.mono (by decide)) (pa_cons (pv 6) (pa_cons (pe_fn Fminus (hr.mono (by decide)) (pa_cons (pv 3) (pa_cons (pv 2) pa_nil))) pa_nil))) pa_nil)))))))), ?_⟩
    show (_ : TS) _ [some _, some _, some _, some _, none, none, none] _
    try dsimp only [cxOf, Cx.nox]
    have tl := L.tot il (Nat.dvd_refl _)
    have tu := L.tot iu (Nat.dvd_refl _)
    have zz : ∀ {q : Rat}, In E B q → Sz 161 q := fun h => h.sz L.E0 L.E9 L.B9
    have zm : ∀ {q : Rat}, In E M q → Sz 161 q := fun h => h.sz L.E0 L.E9 L.M9
    have i1 := L.goal.sub tl (by grind)
    have i2 := tu.sub tl (by grind)
    have i3 := iu.sub il lu
    walk_at "go"
    refine ⟨a, xs, rows, vl, l, E, M, M, rfl, ha, hrows, hl, L.ok il, fun v1 H1 n1 a1 => ?_⟩
    walk_at "go"
    refine ⟨a, xs, rows, vu, u, E, M, M, rfl, sqq0 n1 ha, hrows.x0 n1, hu.x0 n1, L.ok iu, fun v2 H2 n2 a2 => ?_⟩
    walk_at "go"
    refine k_minus a2 (a1.x0 n2) (by grind) ((zz tu).mono (by decide)) ((zz tl).mono (by decide)) fun v3 H3 n3 a3 => ?_
    walk_at "go"
    have e3 := (n1.trans n2).trans n3
    refine k_minus (hg.x0 e3) ((a1.x0 n2).x0 n3) (by grind) ((zz L.goal).mono (by decide)) ((zz tl).mono (by decide)) fun v4 H4 n4 a4 => ?_
    walk_at "go"
    have r0 : 0 < tot rows u - tot rows l := by grind
    refine k_over a4 (a3.x0 n4) r0 ((zz i1).mono (by decide)) ((zz i2).mono (by decide)) fun v5 H5 n5 a5 => ?_
    walk_at "go"
    have e5 := (e3.trans n4).trans n5
    refine k_minus (hu.x0 e5) (hl.x0 e5) lu ((zm iu).mono (by decide)) ((zm il).mono (by decide)) fun v6 H6 n6 a6 => ?_
    walk_at "go"
    have z5 : Sz 322 ((goal - tot rows l) / (tot rows u - tot rows l)) := sz_div (zz i1) (zz i2) r0
    refine k_times (a5.x0 n6) a6 (z5.mono (by decide)) ((zm i3).mono (by decide)) fun v7 H7 n7 a7 => ?_
    walk_at "go"
    have e7 := (e5.trans n6).trans n7
    refine k_plus2 (hl.x0 e7) a7 ((zm il).mono (by decide)) ((sz_mul z5 (zm i3)).mono (by decide)) fun v8 H8 n8 a8 => ?_
    walk_at "go"
    refine k v8 H8 (e7.trans n8) ?_
    have eq : l + (goal - tot rows l) / (tot rows u - tot rows l) * (u - l) = onl (tot rows) goal l u := by
      unfold onl
      grind
    rw [← eq]
    exact a8
end
end Yk

set_option maxHeartbeats 4000000
namespace Yk
open PySem PySem.Spec PyProof.Rows L2

section
variable {P : Program} {w : World} {K : PySem.W.Frag} {mg : Str → Option Value} {base : Heap} {f : Addr} {fd : FuncData}
def RetLev (K : PySem.W.Frag) (H : Hp) (Q : VK) (E M : Nat) (rows : List Row) (goal top : Rat) : Prop := ∀ v y X H', IsLev (tot rows) top goal y → 0 < X → E ∣ X → X ≤ 2 ^ 310 → In X M y → Ext [] H H' → Am K H' v y → Q v H'
def spLeast (K : PySem.W.Frag) : Sp := fun vs H Q _ => ∃ (g t : V) (a : Addr) (xs : List V) (rows : List Row) (D E M B : Nat) (goal top : Rat), vs = [g, .ref a, t] ∧ SqQ K H a xs ∧ RowsIs K H xs rows ∧ Am K H g goal ∧ Am K H t top ∧ LevOk D E M B rows goal top ∧ RetLev K H Q E M rows goal top
theorem e_le_220 {E : Nat} (h : E ≤ 2 ^ 140) : E ≤ 2 ^ 310 := Nat.le_trans h (by decide)
theorem onl_lev {D E M B : Nat} {rows : List Row} {goal top l u : Rat} (L : LevOk D E M B rows goal top) (g1 : tot rows l < goal) (g2 : goal ≤ tot rows u) (il : In E M l) (iu : In E M u) (lu : l ≤ u) (ut : u ≤ top) (hl : Lin (tot rows) l u) :
    IsLev (tot rows) top goal (onl (tot rows) goal l u) ∧ ∃ X, 0 < X ∧ E ∣ X ∧ X ≤ 2 ^ 310 ∧ In X M (onl (tot rows) goal l u) := by
  refine ⟨(lev_line (fun x y => tot_mono rows) il.nn lu ut hl g1 g2).1, ?_⟩
  obtain ⟨X, h1, h2, h3, h4, _⟩ := In.onl L.E0 L.goal (L.tot il (Nat.dvd_refl _)) (L.tot iu (Nat.dvd_refl _)) il iu g1 g2 lu
  refine ⟨X, h1, h2, Nat.le_trans h3 (Nat.le_trans (Nat.mul_le_mul L.E9 (Nat.mul_le_mul L.B9 L.E9)) (by decide)), h4⟩
abbrev s_least_reaching : Stmt := top 23
theorem c_least_reaching : FnScope ["goal", "wishes", "top", "breaks", "at"] ["goal", "wishes", "top"] (defScope s_least_reaching) := ⟨rfl, rfl, rfl, by decide +kernel, rfl, by decide +kernel, by decide +kernel⟩
theorem f_least_reaching (F : FunD K "_least_reaching" "_least_reaching" (defArgs s_least_reaching) (defBody s_least_reaching) (defScope s_least_reaching) [] [] f fd) (hm : mg "_least_reaching" = some (.ref f)) (T : Bt mg) (F_breaks : Fn P w K mg base 9 "_breaks" (spBreaks K)) (F_first_reaching : Fn P w K mg base 5 "_first_reaching" (spFirst K)) (F_on_line : Fn P w K mg base 5 "_on_line" (spOnLine K)) : Fn P w K mg base 10 "_least_reaching" (spLeast K) := by
  refine fn_def F hm c_least_reaching (fun vs H Q E h => ?_) (fun _ _ _ _ _ _ us hl => match us, hl with | [_, _, _], _ => rfl) (fun cdv A outer s H vs Q E hr h => ?_)
  · obtain ⟨g, t, a, xs, rows, D, E, M, B, goal, top, rfl, _⟩ := h
    rfl
  · obtain ⟨g, t, a, xs, rows, D, E, M, B, goal, top, rfl, ha, hrows, hg, ht, L, k⟩ := h
    have nd := c_least_reaching.nd
    refine ⟨_, (pss_cons (ps_set (i := 3) nd rfl (by first | exact Or.inl rfl | exact Or.inr rfl) (pe_fn F_breaks (hr.mono (by decide)) (pa_cons (pv 1) (pa_cons (pv 2) pa_nil))))
      (pss_cons (ps_set (i := 4) nd rfl (by first | exact Or.inl rfl | exact Or.inr rfl) (pe_fn F_first_reaching (hr.mono (by decide)) (pa_cons (pv 0) (pa_cons (pv 1) (pa_cons (pv 3) pa_nil)))))
      (pss_cons (ps_if (pt_cmpR op_eq (pv 4) (pe_callB cr_len (by rfl) T.len (by decide +kernel) (pa_cons (pv 3) pa_nil)) (nomark _))
        (pss_one (ps_ret (pv 2)))
        pss_nil)
      (pss_cons (ps_if (pt_cmpR op_eq (pv 4) pe_int (nomark _))
        (pss_one (ps_ret (pe_ix ix_list (pv 3) pe_int (fun _ _ => rfl))))
        pss_nil)
      (pss_one (ps_ret (pe_fn F_on_line (hr.mono (by decide)) (pa_cons (pv 0) (pa_cons (pv 1) (pa_cons (pe_ix ix_list (pv 3) (pe_op op_sub (pv 4) pe_int) (fun _ _ => rfl)) (pa_cons (pe_ix ix_list (pv 3) (pv 4) (fun _ _ => rfl)) pa_nil))))))))))), ?_⟩
    show (_ : TS) _ [some _, some _, some _, none, none] _
    try dsimp only [cxOf, Cx.nox]
    walk_at "go"
    refine ⟨a, t, xs, rows, D, E, M, B, goal, top, rfl, ha, hrows, ht, L, fun c zs rs H1 hc hrs p as n1 => ?_⟩
    walk_at "go"
    have lz := hrs.1
    have l5 : rs.length ≤ 500 := by
      have h1 := p.length_eq
      have h2 : (allBrk rows top).length ≤ (0 :: top :: rows.flatMap pbrk).length := List.length_filter_le _ _
      have h3 := flat_len rows
      have h4 := L.n
      rw [List.length_cons, List.length_cons] at h2
      omega
    refine ⟨g, a, c, xs, zs, rows, rs, D, E, M, B, goal, top, rfl, sqq0 n1 ha, hrows.x0 n1, hg.x0 n1, L, .inl (.inl hc), hrs, fun q hq => (L.all q (p.subset hq)).1, l5, fun n H2 hf n2 => ?_⟩
    have e2 := n1.trans n2
    have hc2 : H2 c = some (.lst zs) := n2 _ _ hc fun z => nomatch z
    have hr2 := hrs.x0 n2
    walk_at "go"
    refine r_len (.inl (.inl (.inl hc2))) ?_
    walk_at "go"
    by_cases hn : n = rs.length
    · subst hn
      refine r_true (len_is (n := rs.length) (k := (zs.length : Int)) (by omega)) ?_
      walk_at "go"
      exact k t top E H2 (first_top L p as hf) L.E0 (Nat.dvd_refl _) (e_le_220 L.E9) L.top e2 (ht.x0 e2)
    · refine r_false (len_not (k := (zs.length : Int)) (by omega)) ?_
      walk_at "go"
      cases n with
      | zero =>
        refine r_true rfl ?_
        walk_at "go"
        have h0 : 0 < zs.length := by omega
        have hz := List.getElem?_eq_getElem h0
        obtain ⟨q, hq, aq⟩ := hr2.at_ hz
        obtain ⟨rfl, lv⟩ := first_zero L p as hf hq
        refine r_ixL (.inl (.inl hc2)) (at_n (n := 0) rfl hz) ?_
        exact k _ 0 E H2 lv L.E0 (Nat.dvd_refl _) (e_le_220 L.E9) In.zero e2 aq
      | succ n =>
        refine r_false (len_not (k := 0) (by omega)) ?_
        walk_at "go"
        have hl := hf.le
        have hz1 := List.getElem?_eq_getElem (show n < zs.length by omega)
        have hz2 := List.getElem?_eq_getElem (show n + 1 < zs.length by omega)
        generalize zs[n]'(by omega) = v1 at hz1
        generalize zs[n + 1]'(by omega) = v2 at hz2
        obtain ⟨q1, hq1, aq1⟩ := hr2.at_ hz1
        obtain ⟨q2, hq2, aq2⟩ := hr2.at_ hz2
        obtain ⟨g1, g2, il, iu, lu, ut, lin⟩ := first_mid L p as hf hq1 hq2
        obtain ⟨lv, X, x0, x1, x2, x3⟩ := onl_lev L g1 g2 il iu lu ut lin
        refine r_ixL (.inl (.inl hc2)) (at_n (n := n) (by omega) hz1) ?_
        walk_at "go"
        refine r_ixL (.inl (.inl hc2)) (at_n (n := n + 1) rfl hz2) ?_
        walk_at "go"
        exact ⟨g, v1, v2, a, xs, rows, D, E, M, B, goal, top, q1, q2, rfl, sqq0 e2 ha, hrows.x0 e2, hg.x0 e2, L, aq1, aq2, il, iu, lu, g1, g2, fun v H3 n3 a3 => k v _ X H3 lv x0 x1 x2 x3 (e2.trans n3) a3⟩
def spLevel (K : PySem.W.Frag) : Sp := fun vs H Q _ => ∃ (g : V) (a : Addr) (xs : List V) (rows : List Row) (D E M B : Nat) (goal : Rat), vs = [g, .ref a] ∧ SqQ K H a xs ∧ RowsIs K H xs rows ∧ Am K H g goal ∧ LevOk D E M B rows goal 1000 ∧ RetLev K H Q E M rows goal 1000
abbrev s_level_of : Stmt := top 21
theorem c_level_of : FnScope ["capacity", "wishes"] ["capacity", "wishes"] (defScope s_level_of) := ⟨rfl, rfl, rfl, by decide +kernel, rfl, by decide +kernel, by decide +kernel⟩
theorem f_level_of (F : FunD K "level_of" "level_of" (defArgs s_level_of) (defBody s_level_of) (defScope s_level_of) [] [] f fd) (hm : mg "level_of" = some (.ref f)) (TT : ∃ z, mg "TOP" = some (.ref z) ∧ ∀ H, SqT K H z [.int 1000, .int 1]) (F_least_reaching : Fn P w K mg base 10 "_least_reaching" (spLeast K)) : FnOk P w K mg base CX0 11 f fd ["capacity", "wishes"] (spLevel K) := by
  refine ok_def F c_level_of (fun vs H Q E h => ?_) (fun cdv A outer s H vs Q E hr h => ?_)
  · obtain ⟨g, a, xs, rows, D, E, M, B, goal, rfl, _⟩ := h
    rfl
  · obtain ⟨g, a, xs, rows, D, E, M, B, goal, rfl, ha, hrows, hg, L, k⟩ := h
    have nd := c_level_of.nd
    obtain ⟨tz, mtz, htz⟩ := TT
    refine ⟨_, (pss_one (ps_ret (pe_fn F_least_reaching (hr.mono (by decide)) (pa_cons (pv 0) (pa_cons (pv 1) (pa_cons (pe_glob (v := .ref tz) rfl mtz rfl) pa_nil)))))), ?_⟩
    show (_ : TS) _ [some _, some _] _
    try dsimp only [cxOf, Cx.nox]
    walk_at "go"
    exact ⟨g, .ref tz, a, xs, rows, D, E, M, B, goal, 1000, rfl, ha, hrows, hg, ⟨tz, rfl, htz _⟩, L, k⟩
/-! the law's own -/
theorem mk_sub {p q : Rat} : mkRat (p.num * q.den - q.num * p.den) (p.den * q.den) = p - q := by
  rw [Rat.sub_def, Rat.normalize_eq_mkRat]
abbrev s_law_sub : Stmt := top 37
theorem c_law_sub : FnScope ["_law_p", "_law_q"] ["_law_p", "_law_q"] (defScope s_law_sub) := ⟨rfl, rfl, rfl, by decide +kernel, rfl, by decide +kernel, by decide +kernel⟩
theorem f_law_sub (F : FunD K "_law_sub" "_law_sub" (defArgs s_law_sub) (defBody s_law_sub) (defScope s_law_sub) [] [] f fd) (hm : mg "_law_sub" = some (.ref f)) (F_law_pair : Fn P w K mg base 1 "_law_pair" (spPair K)) : Fn P w K mg base 2 "_law_sub" (sp2 (fun p q => q ≤ p) (· - ·) K) := by
  refine fn_def F hm c_law_sub (fun vs H Q E h => ?_) (fun _ _ _ _ _ _ us hl => match us, hl with | [_, _], _ => rfl) (fun cdv A outer s H vs Q E hr h => ?_)
  · obtain ⟨v1, v2, p, q, rfl, _⟩ := h
    rfl
  · obtain ⟨v1, v2, p, q, rfl, ⟨a1, rfl, h1⟩, ⟨a2, rfl, h2⟩, z1, z2, p0, q0, hle, k⟩ := h
    have nd := c_law_sub.nd
    refine ⟨_, (pss_one (ps_ret (pe_fn F_law_pair (hr.mono (by decide)) (pa_cons (pe_op op_sub (pe_op op_mulW (pe_ix ix_tup (pv 0) pe_int (fun _ _ => rfl)) (pe_ix ix_tup (pv 1) pe_int (fun _ _ => rfl))) (pe_op op_mulW (pe_ix ix_tup (pv 1) pe_int (fun _ _ => rfl)) (pe_ix ix_tup (pv 0) pe_int (fun _ _ => rfl)))) (pa_cons (pe_op op_mulW (pe_ix ix_tup (pv 0) pe_int (fun _ _ => rfl)) (pe_ix ix_tup (pv 1) pe_int (fun _ _ => rfl))) pa_nil))))), ?_⟩
    show (_ : TS) _ [some _, some _] _
    try dsimp only [cxOf, Cx.nox]
    have m1 : CMulW p.num (q.den : Int) := cmul z1.1 (szd z2) (by decide) (by decide) (by decide)
    have m2 : CMulW q.num (p.den : Int) := cmul z2.1 (szd z1) (by decide) (by decide) (by decide)
    have m3 : CMulW (p.den : Int) (q.den : Int) := cmul (szd z1) (szd z2) (by decide) (by decide) (by decide)
    walk_at "go"
    have e1 := mulz z1.1 (szd z2)
    have e3 : p.den * q.den < 2 ^ (4000 + 4000) := by rw [Nat.pow_add]; exact Nat.mul_lt_mul'' z1.2 z2.2
    have e4 : (2 : Nat) ^ (4000 + 4000) ≤ 2 ^ 8900 := by decide +kernel
    have n2 : 0 ≤ q.num * (p.den : Int) := Int.mul_nonneg (num_nn q0) (by omega)
    have n3 : q.num * (p.den : Int) ≤ p.num * (q.den : Int) := (Rat.le_iff q p).mp hle
    refine ⟨(p.num * (q.den : Int) - q.num * (p.den : Int)).toNat, p.den * q.den, ?_, Nat.mul_pos p.den_pos q.den_pos, ?_, by omega, fun v H' e a => k v H' e ?_⟩
    · rw [Int.toNat_of_nonneg (by omega), Int.natCast_mul]
    · generalize (2 : Nat) ^ (4000 + 4000) = B at *
      generalize (2 : Nat) ^ 8900 = C at *
      omega
    · rw [Int.toNat_of_nonneg (by omega), mk_sub] at a
      exact a
def spLShare (K : PySem.W.Frag) : Sp := fun vs H Q _ => ∃ (m x : V) (r : Row) (q : Rat) (X M N : Nat), vs = [m, .int (r.w : Int), x] ∧ ManIs K H m r.man ∧ Am K H x q ∧ RowOk X M r ∧ In X N q ∧ 0 < X ∧ X ≤ 2 ^ 400 ∧ M ≤ 2 ^ 20 ∧ N ≤ 2 ^ 120 ∧ RetAm K H Q (shq r.man r.w q)
abbrev s_law_share : Stmt := top 44
theorem c_law_share : FnScope ["_law_wish_here", "_law_heavy", "_law_x"] ["_law_wish_here", "_law_heavy", "_law_x"] (defScope s_law_share) := ⟨rfl, rfl, rfl, by decide +kernel, rfl, by decide +kernel, by decide +kernel⟩
theorem f_law_share (F : FunD K "_law_share" "_law_share" (defArgs s_law_share) (defBody s_law_share) (defScope s_law_share) [] [] f fd) (hm : mg "_law_share" = some (.ref f)) (F_law_pair : Fn P w K mg base 1 "_law_pair" (spPair K)) (F_law_min : Fn P w K mg base 2 "_law_min" (sp2 (fun _ _ => True) lmin K)) (F_law_max : Fn P w K mg base 2 "_law_max" (sp2 (fun _ _ => True) lmax K)) : Fn P w K mg base 3 "_law_share" (spLShare K) := by
  refine fn_def F hm c_law_share (fun vs H Q E h => ?_) (fun _ _ _ _ _ _ us hl => match us, hl with | [_, _, _], _ => rfl) (fun cdv A outer s H vs Q E hr h => ?_)
  · obtain ⟨m, x, r, q, X, M, N, rfl, _⟩ := h
    rfl
  · obtain ⟨m, x, r, q, X, M, N, rfl, hm, hx, ro, iq, X0, X9, M9, N9, k⟩ := h
    have nd := c_law_share.nd
    refine ⟨_, (pss_cons (ps_if (pt_cmpR (op_eqD hr.units) (pv 0) (pe_tup pa_nil) (nomark _))
        (pss_one (ps_ret (pe_tup (pa_cons pe_int (pa_cons pe_int pa_nil)))))
        pss_nil)
      (pss_one (ps_ret (pe_fn F_law_max (hr.mono (by decide)) (pa_cons (pe_ix ix_tup (pv 0) pe_int (fun _ _ => rfl)) (pa_cons (pe_fn F_law_min (hr.mono (by decide)) (pa_cons (pe_ix ix_tup (pv 0) pe_int (fun _ _ => rfl)) (pa_cons (pe_fn F_law_pair (hr.mono (by decide)) (pa_cons (pe_op op_mulW (pv 1) (pe_ix ix_tup (pv 2) pe_int (fun _ _ => rfl))) (pa_cons (pe_ix ix_tup (pv 2) pe_int (fun _ _ => rfl)) pa_nil))) pa_nil))) pa_nil)))))), ?_⟩
    show (_ : TS) _ [some _, some _, some _] _
    try dsimp only [cxOf, Cx.nox]
    walk_at "go"
    refine eq_man (hm.x0 (Ext.refl.new (by assumption))) tupS ?_
    walk_at "go"
    obtain ⟨man, wt, bd⟩ := r
    have w12 : wt ≤ 12 := ro.w12
    cases man with
    | none =>
      walk_at "run"
      exact k _ _ (by walk_at "ext") ⟨_, rfl, tupS⟩
    | some p =>
      obtain ⟨l, u⟩ := p
      obtain ⟨il, iu⟩ := ro.m l u rfl
      obtain ⟨a, v1, v2, rfl, ht, a1, a2⟩ := hm
      have hx0 := hx
      obtain ⟨ax, rfl, hxt⟩ := hx
      have zq := iq.sz X0 X9 N9
      have mw : CMulW (wt : Int) q.num := cmul (m := 10) (n := 521) (by show (wt : Int).natAbs < 2 ^ 10; exact Nat.lt_of_le_of_lt (by omega : wt ≤ 12) (by decide)) zq.1 (by decide) (by decide) (by decide)
      walk_at "run"
      have eq : (wt : Int) * q.num = ((wt * q.num.toNat : Nat) : Int) := by push_cast; rw [Int.toNat_of_nonneg (num_nn iq.nn)]
      have hq1 : q.num.toNat < 2 ^ 521 := by have := zq.1; have := num_nn iq.nn; generalize (2 : Nat) ^ 521 = B at *; omega
      have hq3 : wt * q.num.toNat < 2 ^ (10 + 521) := by rw [Nat.pow_add]; exact Nat.mul_lt_mul'' (Nat.lt_of_le_of_lt (by omega : wt ≤ 12) (by decide)) hq1
      refine ⟨wt * q.num.toNat, q.den, by rw [eq], q.den_pos, Nat.lt_of_lt_of_le hq3 (Nat.pow_le_pow_right (by decide) (by decide)), Nat.lt_of_lt_of_le zq.2 (Nat.pow_le_pow_right (by decide) (by decide)), fun v3 H3 n3 a3 => ?_⟩
      rw [mk_w wt iq.nn] at a3
      walk_at "go"
      have iw := iq.mulN wt
      have zw : Sz 4000 ((wt : Rat) * q) := (sz_mul (sz_nat (m := 4) (by omega) (by decide)) zq).mono (by decide)
      refine k_two (a2.x0 (by walk_at "ext")) a3 ((iu.sz X0 X9 M9).mono (by decide)) zw iu.nn iw.nn trivial fun v4 H4 n4 a4 => ?_
      walk_at "go"
      have im := iu.lmin1 iw
      refine k_two (a1.x0 (by walk_at "ext")) a4 ((il.sz X0 X9 M9).mono (by decide)) ((im.sz X0 X9 M9).mono (by decide)) il.nn im.nn trivial fun v5 H5 n5 a5 => ?_
      walk_at "go"
      exact k _ _ (by walk_at "ext") a5
def spLTotal (K : PySem.W.Frag) : Sp := fun vs H Q _ => ∃ (a : Addr) (xs : List V) (rows : List Row) (v : V) (x : Rat) (X M N : Nat), vs = [.ref a, v] ∧ SqL K H a xs ∧ RowsIs K H xs rows ∧ Am K H v x ∧ TotOk X M N rows x ∧ RetAm K H Q (tot rows x)
abbrev s_law_total : Stmt := top 45
theorem c_law_total : FnScope ["_law_rows", "_law_x", "_law_row"] ["_law_rows", "_law_x"] (defScope s_law_total) := ⟨rfl, rfl, rfl, by decide +kernel, rfl, by decide +kernel, by decide +kernel⟩
theorem f_law_total (F : FunD K "_law_total" "_law_total" (defArgs s_law_total) (defBody s_law_total) (defScope s_law_total) [] [] f fd) (hm : mg "_law_total" = some (.ref f)) (F_law_share : Fn P w K mg base 3 "_law_share" (spLShare K)) (F_law_min : Fn P w K mg base 2 "_law_min" (sp2 (fun _ _ => True) lmin K)) (F_law_sum : Fn P w K mg base 3 "_law_sum" (spSum K)) : Fn P w K mg base 4 "_law_total" (spLTotal K) := by
  refine fn_def F hm c_law_total (fun vs H Q E h => ?_) (fun _ _ _ _ _ _ us hl => match us, hl with | [_, _], _ => rfl) (fun cdv A outer s H vs Q E hr h => ?_)
  · obtain ⟨a, xs, rows, v, x, X, M, N, rfl, _⟩ := h
    rfl
  · obtain ⟨a, xs, rows, v, x, X, M, N, rfl, ha, hrows, hx, T, k⟩ := h
    have nd := c_law_total.nd
    refine ⟨_, (pss_one (ps_ret (pe_fn F_law_sum (hr.mono (by decide)) (pa_cons (pe_lc (own := [("_law_row", 2)]) (g := gName 2) rfl nd (pi_list (pv 0)) (blkOk_by (N := ["_law_rows", "_law_x", "_law_row"]) (sc := defScope s_law_total) (by decide +kernel)) (fun _ _ _ _ _ => pg_name (i := 2) nd rfl (Or.inl rfl)) (fun _ _ _ _ _ => pts_nil) (fun _ _ _ _ _ => (pe_fn F_law_share (hr.mono (by decide)) (pa_cons (pe_ix ix_tup (pv 2) pe_int (fun _ _ => rfl) : PE _ _ (tOp (rIxT K) _ _)) (pa_cons (pe_ix ix_tup (pv 2) pe_int (fun _ _ => rfl) : PE _ _ (tOp (rIxT K) _ _)) (pa_cons (pe_fn F_law_min (hr.mono (by decide)) (pa_cons (pv 1) (pa_cons (pe_ix ix_tup (pv 2) pe_int (fun _ _ => rfl) : PE _ _ (tOp (rIxT K) _ _)) pa_nil))) pa_nil)))))) pa_nil)))), ?_⟩
    show (_ : TS) _ [some _, some _, none] _
    try dsimp only [cxOf, Cx.nox]
    have zr : ∀ r ∈ rows, ManSz 421 r.man ∧ Sz 421 r.b := fun r hr => rowSz (T.row r hr) T.X0 T.X9 T.M9
    have zx : Sz 521 x := T.x.sz T.X0 T.X9 T.N9
    walk_at "go"
    refine ⟨a, rfl, ⟨_, ha⟩, fun D hD => ?_⟩
    refine r_lcL (xs := xs) (fun i H1 => ∃ acc : List V, H1 D = some (.lst acc) ∧ Ams K H1 acc ((rows.take i).map fun r => r.at_ x) ∧ Ext [] H H1)
      ⟨[], upd_same, Ams.nil, Ext.refl.new hD⟩ ?_ ?_ ?_
    · rintro i H1 hi ⟨acc, _, _, e⟩
      exact lst0 e ha
    · rintro j y H1 hy ⟨acc, hacc, hams, e1⟩
      obtain ⟨r, hr, hrow⟩ := hrows.at_ hy
      have hrm := List.mem_of_getElem? hr
      have ro := T.row r hrm
      obtain ⟨at_, mv, bv, rfl, ht, hm, hb⟩ := hrow.x0 e1
      walk_at "go"
      refine ⟨rfl, ?_⟩
      walk_at "go"
      refine k_two (hx.x0 e1) hb (zx.mono (by decide)) ((zr r hrm).2.mono (by decide)) T.x.nn ro.b.nn trivial fun v1 H2 n2 a2 => ?_
      walk_at "go"
      refine ⟨mv, v1, r, lmin x r.b, X, M, M, rfl, hm.x0 n2, a2, ro, T.x.lmin ro.b, T.X0, T.X9, T.M9, Nat.le_trans T.M9 (by decide), fun v2 H3 n3 a3 => ?_⟩
      walk_at "go"
      have hD3 : H3 D = some (.lst acc) := n3 _ _ (n2 _ _ hacc fun z => nomatch z) fun z => nomatch z
      have hl := hams.1
      rw [List.length_map, List.length_take] at hl
      have := T.n
      refine ⟨acc, hD3, Nat.lt_of_le_of_lt (by omega : acc.length ≤ 4000) (by decide), acc ++ [v2], upd_same, ?_, ((e1.trans n2).trans n3).own hD⟩
      rw [take_map hr]
      exact (((hams.x0 n2).x0 n3).w hD3).app (Ams.cons (a3.w hD3) Ams.nil)
    · rintro H1 ⟨acc, hacc, hams, e1⟩
      rw [hrows.1, List.take_length] at hams
      walk_at "go"
      refine ⟨D, acc, _, 421, rfl, .inl (.inl hacc), hams, fun q hq => ?_, fun q hq => ?_, by decide, ?_, fun v2 H2 n2 a2 => ?_⟩
      · obtain ⟨r, hr, rfl⟩ := List.mem_map.mp hq
        exact ((T.row r hr).at_ T.x).sz T.X0 T.X9 T.M9
      · obtain ⟨r, hr, rfl⟩ := List.mem_map.mp hq
        exact ((T.row r hr).at_ T.x).nn
      · rw [List.length_map]
        have := T.n
        omega
      · exact k v2 H2 (e1.trans n2) a2
/-- what the law's own list of breaks must hold -/
structure BrkOk (D E M : Nat) (rows : List Row) (rs : List Rat) : Prop where
  inn : ∀ q ∈ rs, In E M q ∧ q ≤ 1000
  all : ∀ r ∈ rows, r.man ≠ none → ∀ p ∈ r.brk, p ≤ 1000 → p ∈ rs
  z : 0 < rs.length
  n : rs.length ≤ 26
def lbrk (r : Row) : List Rat := r.b :: pbrk' r
where pbrk' (r : Row) : List Rat := match r.man with
  | none => []
  | some (l, m) => [l / (r.w : Rat), m / (r.w : Rat)]
theorem lflat_take {rows : List Row} {i : Nat} {r : Row} (h : rows[i]? = some r) : (rows.take (i + 1)).flatMap lbrk = (rows.take i).flatMap lbrk ++ lbrk r := by
  obtain ⟨hl, e⟩ := List.getElem?_eq_some_iff.mp h
  rw [← List.take_append_getElem hl, List.flatMap_append, e]
  simp
theorem lbrk_len (r : Row) : (lbrk r).length ≤ 3 := by unfold lbrk lbrk.pbrk'; split <;> simp
theorem lflat_len : ∀ (rows : List Row), (rows.flatMap lbrk).length ≤ 3 * rows.length
  | [] => by simp
  | r :: t => by
    have := lflat_len t
    have := lbrk_len r
    rw [List.flatMap_cons, List.length_append, List.length_cons]
    omega
theorem lbrk_brk {r : Row} {p : Rat} (h : p ∈ lbrk r) : p ∈ r.brk := by
  obtain ⟨man, w, b⟩ := r
  cases man with
  | none => simpa [lbrk, lbrk.pbrk', Row.brk] using h
  | some q =>
    obtain ⟨l, m⟩ := q
    simp [lbrk, lbrk.pbrk', Row.brk] at h ⊢
    grind
theorem brk_lbrk {r : Row} {p : Rat} (h : p ∈ r.brk) : p ∈ lbrk r := by
  obtain ⟨man, w, b⟩ := r
  cases man with
  | none => simpa [lbrk, lbrk.pbrk', Row.brk] using h
  | some q =>
    obtain ⟨l, m⟩ := q
    simp [lbrk, lbrk.pbrk', Row.brk] at h ⊢
    grind
theorem brk_ok {D E M : Nat} {rows : List Row} (row : ∀ r ∈ rows, RowOk D M r) (n : rows.length ≤ 8) (de : D * 27720 ∣ E) (m : 1000 ≤ M) : BrkOk D E M rows ((0 :: 1000 :: rows.flatMap lbrk).filter fun q => decide (q ≤ 1000)) := by
  refine ⟨fun q hq => ?_, fun r hr hm p hp hp2 => ?_, ?_, ?_⟩
  · obtain ⟨h1, h2⟩ := List.mem_filter.mp hq
    refine ⟨?_, of_decide_eq_true h2⟩
    rcases List.mem_cons.mp h1 with rfl | h1
    · exact In.zero
    · rcases List.mem_cons.mp h1 with rfl | h1
      · exact In.nat (n := 1000) m
      · obtain ⟨r, hr, hp⟩ := List.mem_flatMap.mp h1
        exact (in_brk (row r hr) q (lbrk_brk hp)).up de
  · exact List.mem_filter.mpr ⟨List.mem_cons_of_mem _ (List.mem_cons_of_mem _ (List.mem_flatMap.mpr ⟨r, hr, brk_lbrk hp⟩)), decide_eq_true hp2⟩
  · exact List.length_pos_of_mem (List.mem_filter.mpr ⟨List.mem_cons_self, decide_eq_true (by decide)⟩)
  · have h2 : ((0 :: 1000 :: rows.flatMap lbrk).filter fun q => decide (q ≤ 1000)).length ≤ (0 :: 1000 :: rows.flatMap lbrk).length := List.length_filter_le _ _
    have h3 := lflat_len rows
    rw [List.length_cons, List.length_cons] at h2
    omega
end
end Yk

set_option maxHeartbeats 4000000
namespace Yk
open PySem PySem.Spec PyProof.Rows L2

section
variable {P : Program} {w : World} {K : PySem.W.Frag} {mg : Str → Option Value} {base : Heap} {f : Addr} {fd : FuncData}
def spLBreaks (K : PySem.W.Frag) : Sp := fun vs H Q _ => ∃ (a : Addr) (xs : List V) (rows : List Row) (D E M : Nat), vs = [.ref a] ∧ SqL K H a xs ∧ RowsIs K H xs rows ∧ (∀ r ∈ rows, RowOk D M r) ∧ rows.length ≤ 8 ∧ D * 27720 ∣ E ∧ 0 < E ∧ E ≤ 2 ^ 140 ∧ M ≤ 2 ^ 20 ∧ 1000 ≤ M ∧
  ∀ (c : Addr) (zs : List V) (rs : List Rat) H', H c = none → H' c = some (.lst zs) → Ams K H' zs rs → BrkOk D E M rows rs → Ext [] H H' → Q (.ref c) H'
theorem pair_div {wt : Nat} {q : Rat} (h : 0 ≤ q) (hw : 0 < wt) : mkRat ((q.num.toNat : Nat) : Int) (q.den * wt) = q / (wt : Rat) := by
  have hn := num_nn h
  have w0 := natP hw
  have d0 := natP q.den_pos
  have e2 : (q.num : Rat) / (q.den : Rat) = q := by rw [← Rat.mkRat_eq_div]; exact Rat.mkRat_self q
  rw [Int.toNat_of_nonneg hn, Rat.mkRat_eq_div]
  push_cast
  grind
abbrev s_law_breaks : Stmt := top 46
theorem c_law_breaks : FnScope ["_law_rows", "_law_found", "_law_row", "_law_x"] ["_law_rows"] (defScope s_law_breaks) := ⟨rfl, rfl, rfl, by decide +kernel, rfl, by decide +kernel, by decide +kernel⟩
theorem f_law_breaks (F : FunD K "_law_breaks" "_law_breaks" (defArgs s_law_breaks) (defBody s_law_breaks) (defScope s_law_breaks) [] [] f fd) (hm : mg "_law_breaks" = some (.ref f)) (F_law_pair : Fn P w K mg base 1 "_law_pair" (spPair K)) (F_law_more : Fn P w K mg base 1 "_law_more" (spMore K)) : Fn P w K mg base 2 "_law_breaks" (spLBreaks K) := by
  refine fn_def F hm c_law_breaks (fun vs H Q E h => ?_) (fun _ _ _ _ _ _ us hl => match us, hl with | [_], _ => rfl) (fun cdv A outer s H vs Q E hr h => ?_)
  · obtain ⟨a, xs, rows, D, E, M, rfl, _⟩ := h
    rfl
  · obtain ⟨a, xs, rows, D, E, M, rfl, ha, hrows, hok, nr, de, E0, E9, M9, M1, k⟩ := h
    have nd := c_law_breaks.nd
    refine ⟨_, (pss_cons (ps_set (i := 1) nd rfl (by first | exact Or.inl rfl | exact Or.inr rfl) (pe_lst (pa_cons (pe_tup (pa_cons pe_int (pa_cons pe_int pa_nil))) (pa_cons (pe_tup (pa_cons pe_int (pa_cons pe_int pa_nil))) pa_nil))))
      (pss_mid (ps_for PassesOwn.never rfl (pi_list (pv 0)) (pg_name (i := 2) nd rfl (by first | exact Or.inl rfl | exact Or.inr rfl))
        (pss_cons (ps_expr (pe_bm PySem.F.plainAttrs_list PySem.F.slot_list_append PySem.F.type_list_append mt_append (pv 1) (pa_cons (pe_ix ix_tup (pv 2) pe_int (fun _ _ => rfl)) pa_nil)))
        (pss_one (ps_if (pt_cmpR (op_neD hr.units) (pe_ix ix_tup (pv 2) pe_int (fun _ _ => rfl)) (pe_tup pa_nil) (nomark _))
          (pss_one (ps_expr (pe_bm PySem.F.plainAttrs_list PySem.F.slot_list_extend PySem.F.type_list_extend mt_extend (pv 1) (pa_cons (pe_lst (pa_cons (pe_fn F_law_pair (hr.mono (by decide)) (pa_cons (pe_ix ix_tup (pe_ix ix_tup (pe_ix ix_tup (pv 2) pe_int (fun _ _ => rfl)) pe_int (fun _ _ => rfl)) pe_int (fun _ _ => rfl)) (pa_cons (pe_op op_mulW (pe_ix ix_tup (pe_ix ix_tup (pe_ix ix_tup (pv 2) pe_int (fun _ _ => rfl)) pe_int (fun _ _ => rfl)) pe_int (fun _ _ => rfl)) (pe_ix ix_tup (pv 2) pe_int (fun _ _ => rfl))) pa_nil))) (pa_cons (pe_fn F_law_pair (hr.mono (by decide)) (pa_cons (pe_ix ix_tup (pe_ix ix_tup (pe_ix ix_tup (pv 2) pe_int (fun _ _ => rfl)) pe_int (fun _ _ => rfl)) pe_int (fun _ _ => rfl)) (pa_cons (pe_op op_mulW (pe_ix ix_tup (pe_ix ix_tup (pe_ix ix_tup (pv 2) pe_int (fun _ _ => rfl)) pe_int (fun _ _ => rfl)) pe_int (fun _ _ => rfl)) (pe_ix ix_tup (pv 2) pe_int (fun _ _ => rfl))) pa_nil))) pa_nil))) pa_nil))))
          pss_nil))))
      (pss_one (ps_ret (pe_lc (own := [("_law_x", 3)]) (g := gName 3) rfl nd (pi_list (pv 1)) (blkOk_by (N := ["_law_rows", "_law_found", "_law_row", "_law_x"]) (sc := defScope s_law_breaks) (by decide +kernel)) (fun _ _ _ _ _ => pg_name (i := 3) nd rfl (Or.inl rfl)) (fun _ _ _ _ _ => (pts_one (pt_not (pt_val (pe_fn F_law_more (hr.mono (by decide)) (pa_cons (pv 3) (pa_cons (pe_tup (pa_cons pe_int (pa_cons pe_int pa_nil))) pa_nil))))))) (fun _ _ _ _ _ => (pv 3))))))), ?_⟩
    show (_ : TS) _ [some _, none, none, none] _
    try dsimp only [cxOf, Cx.nox]
    walk_at "go"
    rename_i p1 hp1 p2 hp2 c hc
    have e0 : Ext [] H (upd (upd (upd H p1 (.tup [.int 0, .int 1])) p2 (.tup [.int 1000, .int 1])) c (.lst [.ref p1, .ref p2])) := by walk_at "ext"
    have t1 : Am K (upd (upd (upd H p1 (.tup [.int 0, .int 1])) p2 (.tup [.int 1000, .int 1])) c (.lst [.ref p1, .ref p2])) (.ref p1) 0 := ⟨p1, rfl, by walk_at "sq"⟩
    have t2 : Am K (upd (upd (upd H p1 (.tup [.int 0, .int 1])) p2 (.tup [.int 1000, .int 1])) c (.lst [.ref p1, .ref p2])) (.ref p2) 1000 := ⟨p2, rfl, by walk_at "sq"⟩
    have hcl : upd (upd (upd H p1 (.tup [.int 0, .int 1])) p2 (.tup [.int 1000, .int 1])) c (.lst [.ref p1, .ref p2]) c = some (.lst [.ref p1, .ref p2]) := upd_same
    have hc0 : H c = none := (((Ext.refl.new hp1).new hp2 : Ext [] H _)).free hc
    generalize upd (upd (upd H p1 (.tup [.int 0, .int 1])) p2 (.tup [.int 1000, .int 1])) c (.lst [.ref p1, .ref p2]) = H0 at *
    have lr := hrows.1
    refine r_mid (fun σ' H' => ∃ (zs : List V) (u2 : Option V), σ' = [some (V.ref a), some (V.ref c), u2, none] ∧ H' c = some (.lst zs) ∧ Ams K H' zs (0 :: 1000 :: rows.flatMap lbrk) ∧ Ext [] H H') ?_ ?_
    · refine r_forL rfl (lst0 e0 ha) (fun i σ' H' => ∃ (zs : List V) (u2 : Option V), σ' = [some (V.ref a), some (V.ref c), u2, none] ∧ H' c = some (.lst zs) ∧ Ams K H' zs (0 :: 1000 :: (rows.take i).flatMap lbrk) ∧ Ext [] H H')
        ⟨_, none, rfl, hcl, Ams.cons t1 (Ams.cons t2 Ams.nil), e0⟩ ?_ ?_ ?_
      · rintro i σ' H' hi ⟨zs, u2, rfl, h1, h2, e⟩
        exact lst0 e ha
      · rintro i y σ' H1 hy ⟨zs, u2, rfl, h1, h2, e1⟩
        obtain ⟨r, hr, hrow⟩ := hrows.at_ hy
        have ro := hok r (List.mem_of_getElem? hr)
        have hil := (List.getElem?_eq_some_iff.mp hr).1
        obtain ⟨at_, mv, bv, rfl, htt, hman, hb⟩ := hrow.x0 e1
        have lz : zs.length ≤ 30 := by
          have q1 := h2.1
          have q2 := lflat_len (rows.take i)
          rw [List.length_cons, List.length_cons] at q1
          rw [List.length_take] at q2
          omega
        have fl := lflat_take hr
        walk_at "go"
        refine ⟨ty_lst h1, ?_⟩
        walk_at "go"
        try refine r_app h1 (by omega) ?_
        walk_at "go"
        have h3 : upd H1 c (.lst (zs ++ [bv])) c = some (.lst (zs ++ [bv])) := upd_same
        have am3 := (h2.w (l' := zs ++ [bv]) h1).app (Ams.cons (hb.w (l' := zs ++ [bv]) h1) Ams.nil)
        have htt3 := tupW (l' := zs ++ [bv]) htt h1
        have hm3 : ManIs K (upd H1 c (.lst (zs ++ [bv]))) mv r.man := hman.x extW (lstS1 h1)
        have ex3 := e1.own (o := .lst (zs ++ [bv])) hc0
        generalize upd H1 c (HO.lst (zs ++ [bv])) = H3 at *
        walk_at "go"
        refine ne_man (hm3.x0 (Ext.refl.new (by assumption))) tupS ?_
        walk_at "go"
        obtain ⟨man, wt, bd⟩ := r
        cases man with
        | none =>
          walk_at "run"
          refine ⟨zs ++ [bv], _, rfl, by rw [upd_ne (ne_of_none h3 (by assumption))]; exact h3, ?_, ex3.new (by assumption)⟩
          rw [fl]
          show Ams K _ (zs ++ [bv]) (0 :: 1000 :: (rows.take i).flatMap lbrk ++ [bd])
          exact am3.x0 (Ext.refl.new (by assumption))
        | some p =>
          obtain ⟨l, u⟩ := p
          obtain ⟨al, au⟩ := ro.m l u rfl
          have w0 : 0 < wt := ro.w0
          have w12 : wt ≤ 12 := ro.w12
          have sl := (al.up (Nat.dvd_trans (Nat.dvd_mul_right _ _) de)).sz E0 E9 M9
          have su := (au.up (Nat.dvd_trans (Nat.dvd_mul_right _ _) de)).sz E0 E9 M9
          obtain ⟨am, v1, v2, rfl, hm2, ⟨b1, rfl, a1⟩, ⟨b2, rfl, a2⟩⟩ := hm3
          have wz : (wt : Int).natAbs < 2 ^ 10 := Nat.lt_of_le_of_lt (by omega : (wt : Int).natAbs ≤ 12) (by decide)
          have mw1 : CMulW (l.den : Int) (wt : Int) := cmul (m := 161) (n := 10) sl.2 wz (by decide) (by decide) (by decide)
          have mw2 : CMulW (u.den : Int) (wt : Int) := cmul (m := 161) (n := 10) su.2 wz (by decide) (by decide) (by decide)
          have pw : ∀ q : Rat, Sz 161 q → 0 ≤ q → q.num.toNat < 2 ^ 8900 ∧ q.den * wt < 2 ^ 8900 := fun q hq h0 => by
            constructor
            · have h1 := hq.1
              have h2 := num_nn h0
              have h3 : (2 : Nat) ^ 161 ≤ 2 ^ 8900 := Nat.pow_le_pow_right (by decide) (by decide)
              generalize (2 : Nat) ^ 8900 = B at *
              omega
            · have h3 : q.den * wt < 2 ^ 161 * 2 ^ 10 := Nat.mul_lt_mul'' hq.2 (Nat.lt_of_le_of_lt w12 (by decide))
              rw [← Nat.pow_add] at h3
              exact Nat.lt_of_lt_of_le h3 (Nat.pow_le_pow_right (by decide) (by decide))
          walk_at "run"
          have h3' : upd H3 _ (.tup []) c = some (.lst (zs ++ [bv])) := (Ext.refl (S := [])).new (by assumption) _ _ h3 fun z => nomatch z
          refine ⟨ty_lst h3', ?_⟩
          walk_at "go"
          refine ⟨l.num.toNat, l.den * wt, by rw [Int.toNat_of_nonneg (num_nn al.nn)]; push_cast; rfl, Nat.mul_pos l.den_pos w0, (pw l sl al.nn).1, (pw l sl al.nn).2, fun v3 H4 n4 a4 => ?_⟩
          rw [pair_div al.nn w0] at a4
          walk_at "go"
          refine ⟨u.num.toNat, u.den * wt, by rw [Int.toNat_of_nonneg (num_nn au.nn)]; push_cast; rfl, Nat.mul_pos u.den_pos w0, (pw u su au.nn).1, (pw u su au.nn).2, fun v4 H5 n5 a5 => ?_⟩
          rw [pair_div au.nn w0] at a5
          walk_at "go"
          rename_i q hq
          have e5 := (((Ext.refl (S := []) (H := H3)).new (o := .tup []) (by assumption)).trans n4).trans n5
          have h5 : H5 c = some (.lst (zs ++ [bv])) := e5 _ _ h3 fun z => nomatch z
          have h6 : upd H5 q (.lst [v3, v4]) c = some (.lst (zs ++ [bv])) := by rw [upd_ne (ne_of_none h5 hq)]; exact h5
          have e6 := e5.new (o := .lst [v3, v4]) hq
          refine ⟨c, q, zs ++ [bv], [v3, v4], rfl, rfl, h6, upd_same, ?_, ?_⟩
          · exact Nat.le_trans (by rw [List.length_append]; exact Nat.add_le_add_right (Nat.add_le_add_right lz 1) 2 : (zs ++ [bv]).length + 2 ≤ 33) (by decide)
          walk_at "go"
          have am6 := ((am3.x0 e6).app (Ams.cons ((a4.x0 n5).n hq) (Ams.cons (a5.n hq) Ams.nil))).w (l' := zs ++ [bv] ++ [v3, v4]) h6
          refine ⟨zs ++ [bv] ++ [v3, v4], _, rfl, upd_same, ?_, (ex3.trans e6).own hc0⟩
          rw [fl]
          have eq : (0 : Rat) :: 1000 :: ((rows.take i).flatMap lbrk ++ lbrk ⟨some (l, u), wt, bd⟩) = 0 :: 1000 :: (rows.take i).flatMap lbrk ++ [bd] ++ [l / (wt : Rat), u / (wt : Rat)] := by
            simp [lbrk, lbrk.pbrk']
          rw [eq]
          exact am6
      · rintro σ' H' ⟨zs, u2, rfl, h1, h2, e⟩
        rw [lr, List.take_length] at h2
        exact ⟨zs, u2, rfl, h1, h2, e⟩
    · rintro σ' H1 ⟨zs, u2, rfl, h1, h2, e1⟩
      walk_at "go"
      refine ⟨c, rfl, ⟨_, .inl (.inl h1)⟩, fun d hd => ?_⟩
      have ndc : d ≠ c := fun z => by rw [z, h1] at hd; cases hd
      have B := brk_ok hok nr de M1
      have hin : ∀ p ∈ (0 : Rat) :: 1000 :: rows.flatMap lbrk, In E M p := fun p hp => by
        rcases List.mem_cons.mp hp with rfl | hp
        · exact In.zero
        · rcases List.mem_cons.mp hp with rfl | hp
          · exact In.nat (n := 1000) M1
          · obtain ⟨r, hr, hp⟩ := List.mem_flatMap.mp hp
            exact (in_brk (hok r hr) p (lbrk_brk hp)).up de
      have lz : zs.length ≤ 30 := by
        have q1 := h2.1
        have q2 := lflat_len rows
        rw [List.length_cons, List.length_cons] at q1
        omega
      refine r_lcL (xs := zs) (fun i H2 => ∃ acc : List V, H2 d = some (.lst acc) ∧ acc.length ≤ i ∧ Ams K H2 acc (((0 :: 1000 :: rows.flatMap lbrk).take i).filter fun q => decide (q ≤ 1000)) ∧ Ext [] H1 H2)
        ⟨[], upd_same, Nat.le_refl _, Ams.nil, Ext.refl.new hd⟩ ?_ ?_ ?_
      · rintro i H2 hi ⟨acc, q1, q2, q3, q4⟩
        exact .inl (.inl (q4 _ _ h1 fun z => nomatch z))
      · rintro i y H2 hy ⟨acc, q1, q2, q3, q4⟩
        have hil := (List.getElem?_eq_some_iff.mp hy).1
        obtain ⟨q, hq, aq⟩ := h2.at_ hy
        have iq := hin q (List.mem_of_getElem? hq)
        walk_at "go"
        refine ⟨rfl, ?_⟩
        walk_at "go"
        refine ⟨y, _, q, 1000, rfl, aq.x0 (q4.new (by assumption)), ⟨_, rfl, tupS⟩, (iq.sz E0 E9 M9).mono (by decide), ⟨by decide, by decide⟩, ?_⟩
        walk_at "go"
        have tg := take_get hq
        have q1' := (Ext.refl (S := [])).new (o := .tup [.int 1000, .int 1]) (by assumption) _ _ q1 fun z => nomatch z
        have q3' := q3.x0 ((Ext.refl (S := [])).new (o := .tup [.int 1000, .int 1]) (by assumption))
        have aq' := (aq.x0 q4).x0 ((Ext.refl (S := [])).new (o := .tup [.int 1000, .int 1]) (by assumption))
        have q4' := q4.new (o := .tup [.int 1000, .int 1]) (by assumption)
        refine r_ndec (fun hle => ?_) (fun hgt => ?_)
        · have hle : q ≤ 1000 := Rat.not_lt.mp hle
          walk_at "go"
          refine ⟨acc, q1', Nat.lt_of_le_of_lt (by omega : acc.length ≤ 4000) (by decide), acc ++ [y], upd_same, by rw [List.length_append]; exact Nat.add_le_add_right q2 1, ?_, q4'.own hd⟩
          rw [tg, List.filter_append, show [q].filter (fun q => decide (q ≤ 1000)) = [q] by simp [hle]]
          exact (q3'.w q1').app (Ams.cons (aq'.w q1') Ams.nil)
        · refine ⟨acc, q1', by omega, ?_, q4'⟩
          rw [tg, List.filter_append, show [q].filter (fun q => decide (q ≤ 1000)) = [] by simpa using Rat.not_le.mpr hgt, List.append_nil]
          exact q3'
      · rintro H2 ⟨acc, q1, q2, q3, q4⟩
        walk_at "go"
        rw [h2.1, List.take_length] at q3
        exact k d acc _ H2 (e1.free hd) q1 q3 B (e1.trans q4)
theorem lin_brk {D E M : Nat} {rows : List Row} {rs : List Rat} {l u : Rat} (hok : ∀ r ∈ rows, RowOk D M r) (B : BrkOk D E M rows rs) (lu : l ≤ u) (hu : u ≤ 1000) (h : ∀ p ∈ rs, p ≤ l ∨ u ≤ p) : Lin (tot rows) l u :=
  lin_tot rows (fun r hr => (hok r hr).w0) lu fun r hr hm p hp => by
    by_cases h1 : p ≤ 1000
    · exact h p (B.all r hr hm p hp h1)
    · exact .inr (by grind)
def spLLevel (K : PySem.W.Frag) : Sp := fun vs H Q _ => ∃ (g : V) (a : Addr) (xs : List V) (rows : List Row) (D E M B : Nat) (goal : Rat), vs = [g, .ref a] ∧ SqL K H a xs ∧ RowsIs K H xs rows ∧ Am K H g goal ∧ LevOk D E M B rows goal 1000 ∧ RetLev K H Q E M rows goal 1000
theorem m1000 {E M : Nat} (h : In E M 1000) : 1000 ≤ M := by have := h.le; exact_mod_cast this
abbrev s_law_level : Stmt := top 47
theorem c_law_level : FnScope ["_law_supply_here", "_law_rows", "_law_lower", "_law_upper", "_law_x", "_law_base", "_law_rise"] ["_law_supply_here", "_law_rows"] (defScope s_law_level) := ⟨rfl, rfl, rfl, by decide +kernel, rfl, by decide +kernel, by decide +kernel⟩
theorem f_law_level (F : FunD K "_law_level" "_law_level" (defArgs s_law_level) (defBody s_law_level) (defScope s_law_level) [] [] f fd) (hm : mg "_law_level" = some (.ref f)) (F_law_total : Fn P w K mg base 4 "_law_total" (spLTotal K)) (F_law_more : Fn P w K mg base 1 "_law_more" (spMore K)) (F_law_breaks : Fn P w K mg base 2 "_law_breaks" (spLBreaks K)) (F_law_sub : Fn P w K mg base 2 "_law_sub" (sp2 (fun p q => q ≤ p) (· - ·) K)) (F_law_mul : Fn P w K mg base 2 "_law_mul" (sp2 (fun _ _ => True) (· * ·) K)) (F_law_div : Fn P w K mg base 2 "_law_div" (sp2 (fun _ q => 0 < q) (· / ·) K)) (F_law_add : Fn P w K mg base 2 "_law_add" (sp2 (fun _ _ => True) (· + ·) K)) : Fn P w K mg base 5 "_law_level" (spLLevel K) := by
  refine fn_def F hm c_law_level (fun vs H Q E h => ?_) (fun _ _ _ _ _ _ us hl => match us, hl with | [_, _], _ => rfl) (fun cdv A outer s H vs Q E hr h => ?_)
  · obtain ⟨g, a, xs, rows, D, E, M, B, goal, rfl, _⟩ := h
    rfl
  · obtain ⟨g, a, xs, rows, D, E, M, B, goal, rfl, ha, hrows, hg, L, k⟩ := h
    have nd := c_law_level.nd
    refine ⟨_, (pss_cons (ps_set (i := 2) nd rfl (by first | exact Or.inl rfl | exact Or.inr rfl) (pe_tup (pa_cons pe_int (pa_cons pe_int pa_nil))))
      (pss_cons (ps_set (i := 3) nd rfl (by first | exact Or.inl rfl | exact Or.inr rfl) (pe_tup (pa_cons pe_int (pa_cons pe_int pa_nil))))
      (pss_mid (ps_if (pt_not (pt_val (pe_fn F_law_more (hr.mono (by decide)) (pa_cons (pv 0) (pa_cons (pe_fn F_law_total (hr.mono (by decide)) (pa_cons (pv 1) (pa_cons (pv 2) pa_nil))) pa_nil)))))
        (pss_one (ps_ret (pv 2)))
        pss_nil)
      (pss_mid (ps_if (pt_val (pe_fn F_law_more (hr.mono (by decide)) (pa_cons (pv 0) (pa_cons (pe_fn F_law_total (hr.mono (by decide)) (pa_cons (pv 1) (pa_cons (pv 3) pa_nil))) pa_nil))))
        (pss_one (ps_ret (pv 3)))
        pss_nil)
      (pss_mid (ps_for PassesOwn.never rfl (pi_list (pe_fn F_law_breaks (hr.mono (by decide)) (pa_cons (pv 1) pa_nil))) (pg_name (i := 4) nd rfl (by first | exact Or.inl rfl | exact Or.inr rfl))
        (pss_one (ps_if (PW.pt (pw_and (pt_val (pe_fn F_law_more (hr.mono (by decide)) (pa_cons (pv 4) (pa_cons (pv 2) pa_nil)))) (pw_and1 (pt_val (pe_fn F_law_more (hr.mono (by decide)) (pa_cons (pv 3) (pa_cons (pv 4) pa_nil)))))))
          (pss_one (ps_if (pt_val (pe_fn F_law_more (hr.mono (by decide)) (pa_cons (pv 0) (pa_cons (pe_fn F_law_total (hr.mono (by decide)) (pa_cons (pv 1) (pa_cons (pv 4) pa_nil))) pa_nil))))
            (pss_one (ps_set (i := 2) nd rfl (by first | exact Or.inl rfl | exact Or.inr rfl) (pv 4)))
            (pss_one (ps_set (i := 3) nd rfl (by first | exact Or.inl rfl | exact Or.inr rfl) (pv 4)))))
          pss_nil)))
      (pss_cons (ps_set (i := 5) nd rfl (by first | exact Or.inl rfl | exact Or.inr rfl) (pe_fn F_law_total (hr.mono (by decide)) (pa_cons (pv 1) (pa_cons (pv 2) pa_nil))))
      (pss_cons (ps_set (i := 6) nd rfl (by first | exact Or.inl rfl | exact Or.inr rfl) (pe_fn F_law_sub (hr.mono (by decide)) (pa_cons (pe_fn F_law_total (hr.mono (by decide)) (pa_cons (pv 1) (pa_cons (pv 3) pa_nil))) (pa_cons (pv 5) pa_nil))))
      (pss_one (ps_ret (pe_fn F_law_add (hr.mono (by decide)) (pa_cons (pv 2) (pa_cons (pe_fn F_law_div (hr.mono (by decide)) (pa_cons (pe_fn F_law_mul (hr.mono (by decide)) (pa_cons (pe_fn F_law_sub (hr.mono (by decide)) (pa_cons (pv 0) (pa_cons (pv 5) pa_nil))) (pa_cons (pe_fn F_law_sub (hr.mono (by decide)) (pa_cons (pv 3) (pa_cons (pv 2) pa_nil))) pa_nil))) (pa_cons (pv 6) pa_nil))) pa_nil)))))))))))), ?_⟩
    show (_ : TS) _ [some _, some _, none, none, none, none, none] _
    try dsimp only [cxOf, Cx.nox]
    have M1 := m1000 L.top
    have zz : ∀ {q : Rat}, In E B q → Sz 161 q := fun h => h.sz L.E0 L.E9 L.B9
    have zm : ∀ {q : Rat}, In E M q → Sz 161 q := fun h => h.sz L.E0 L.E9 L.M9
    have i0 : In E M 0 := In.zero
    have tt : ∀ {q : Rat}, In E M q → In E B (tot rows q) := fun h => L.tot h (Nat.dvd_refl _)
    walk_at "go"
    rename_i p1 hp1 p2 hp2
    have e0 : Ext [] H (upd (upd H p1 (.tup [.int 0, .int 1])) p2 (.tup [.int 1000, .int 1])) := by walk_at "ext"
    have t1 : Am K (upd (upd H p1 (.tup [.int 0, .int 1])) p2 (.tup [.int 1000, .int 1])) (.ref p1) 0 := ⟨p1, rfl, by walk_at "sq"⟩
    have t2 : Am K (upd (upd H p1 (.tup [.int 0, .int 1])) p2 (.tup [.int 1000, .int 1])) (.ref p2) 1000 := ⟨p2, rfl, by walk_at "sq"⟩
    generalize upd (upd H p1 (.tup [.int 0, .int 1])) p2 (.tup [.int 1000, .int 1]) = H0 at *
    refine r_mid (fun σ' H' => Ext [] H0 H' ∧ tot rows 0 < goal ∧ σ' = [some g, some (V.ref a), some (V.ref p1), some (V.ref p2), none, none, none]) ?_ ?_
    · walk_at "go"
      refine ⟨a, xs, rows, _, 0, E, M, M, rfl, lst0 e0 ha, hrows.x0 e0, t1, L.ok i0, fun v H1 n1 a1 => ?_⟩
      walk_at "go"
      refine ⟨g, v, goal, tot rows 0, rfl, (hg.x0 e0).x0 n1, a1, (zz L.goal).mono (by decide), (zz (tt i0)).mono (by decide), ?_⟩
      walk_at "go"
      refine r_ndec (fun hle => ?_) (fun hgt => ?_)
      · walk_at "go"
        exact k _ 0 E H1 (lev_zero (by decide) (Rat.not_lt.mp hle)) L.E0 (Nat.dvd_refl _) (e_le_220 L.E9) i0 (e0.trans n1) (t1.x0 n1)
      · walk_at "go"
        exact ⟨n1, hgt, rfl⟩
    · rintro σ' H1 ⟨n1, g1, rfl⟩
      have e1 := e0.trans n1
      refine r_mid (fun σ' H' => Ext [] H0 H' ∧ goal ≤ tot rows 1000 ∧ σ' = [some g, some (V.ref a), some (V.ref p1), some (V.ref p2), none, none, none]) ?_ ?_
      · walk_at "go"
        refine ⟨a, xs, rows, _, 1000, E, M, M, rfl, lst0 e1 ha, hrows.x0 e1, t2.x0 n1, L.ok L.top, fun v H2 n2 a2 => ?_⟩
        walk_at "go"
        have e2 := e1.trans n2
        refine ⟨g, v, goal, tot rows 1000, rfl, hg.x0 e2, a2, (zz L.goal).mono (by decide), (zz (tt L.top)).mono (by decide), ?_⟩
        walk_at "go"
        refine r_dec (fun hgt => ?_) (fun hle => ?_)
        · walk_at "go"
          exact k _ 1000 E H2 (lev_top (fun x y => tot_mono rows) (by decide) hgt) L.E0 (Nat.dvd_refl _) (e_le_220 L.E9) L.top e2 (t2.x0 (n1.trans n2))
        · walk_at "go"
          exact ⟨n1.trans n2, Rat.not_lt.mp hle, rfl⟩
      · rintro σ' H2 ⟨n2, g2, rfl⟩
        have e2 := e0.trans n2
        refine r_mid (fun σ' H' => Ext [] H H' ∧ ∃ (vl vu : V) (l u : Rat) (u4 : Option V), σ' = [some g, some (V.ref a), some vl, some vu, u4, none, none] ∧ Am K H' vl l ∧ Am K H' vu u ∧ In E M l ∧ In E M u ∧ l ≤ u ∧ u ≤ 1000 ∧ tot rows l < goal ∧ goal ≤ tot rows u ∧ Lin (tot rows) l u) ?_ ?_
        · refine r_for ?_
          walk_at "go"
          refine ⟨a, xs, rows, D, E, M, rfl, lst0 e2 ha, hrows.x0 e2, L.row, L.n, L.de, L.E0, L.E9, L.M9, M1, fun c zs rs H3 _ hc hrs BR n3 => ?_⟩
          have e3 := e2.trans n3
          refine ⟨c, rfl, ⟨zs, .inl (.inl hc)⟩, ?_⟩
          have ls := hrs.1
          refine r_loopL (xs := zs) (fun i σ' H' => Ext [] H3 H' ∧ ∃ (vl vu : V) (l u : Rat) (u4 : Option V), σ' = [some g, some (V.ref a), some vl, some vu, u4, none, none] ∧ Am K H' vl l ∧ Am K H' vu u ∧ In E M l ∧ In E M u ∧ l ≤ u ∧ u ≤ 1000 ∧ tot rows l < goal ∧ goal ≤ tot rows u ∧ ∀ p ∈ rs.take i, p ≤ l ∨ u ≤ p)
            ⟨Ext.refl, _, _, 0, 1000, none, rfl, t1.x0 (n2.trans n3), t2.x0 (n2.trans n3), i0, L.top, by decide, Rat.le_refl, g1, g2, fun p hp => by simp at hp⟩ ?_ ?_ ?_
          · rintro i σ' H' hi ⟨n4, _⟩
            exact lst0 n4 (.inl (.inl hc))
          · rintro i y σ' H4 hy ⟨n4, vl, vu, l, u, u4, rfl, al, au, il, iu, lu, ut, h1, h2, hb⟩
            obtain ⟨q, hq, aq⟩ := hrs.at_ hy
            have iq := (BR.inn q (List.mem_of_getElem? hq)).1
            have qt := (BR.inn q (List.mem_of_getElem? hq)).2
            have aq4 := aq.x0 n4
            have e4 := e3.trans n4
            have tg := take_get hq
            walk_at "go"
            refine ⟨y, vl, q, l, rfl, aq4, al, (zm iq).mono (by decide), (zm il).mono (by decide), ?_⟩
            walk_at "go"
            have stay : (∀ p ∈ rs.take (i + 1), p ≤ l ∨ u ≤ p) → Ext [] H3 H4 ∧ ∃ (vl' vu' : V) (l' u' : Rat) (u4' : Option V), [some g, some (V.ref a), some vl, some vu, some y, none, none] = [some g, some (V.ref a), some vl', some vu', u4', none, none] ∧ Am K H4 vl' l' ∧ Am K H4 vu' u' ∧ In E M l' ∧ In E M u' ∧ l' ≤ u' ∧ u' ≤ 1000 ∧ tot rows l' < goal ∧ goal ≤ tot rows u' ∧ ∀ p ∈ rs.take (i + 1), p ≤ l' ∨ u' ≤ p :=
              fun h => ⟨n4, vl, vu, l, u, _, rfl, al, au, il, iu, lu, ut, h1, h2, h⟩
            have snoc : ∀ l' u' : Rat, l ≤ l' → u' ≤ u → (q ≤ l' ∨ u' ≤ q) → ∀ p ∈ rs.take (i + 1), p ≤ l' ∨ u' ≤ p := fun l' u' z1 z2 z3 p hp => by
              rw [tg] at hp
              rcases List.mem_append.mp hp with hp | hp
              · rcases hb p hp with z | z
                · exact .inl (Rat.le_trans z z1)
                · exact .inr (Rat.le_trans z2 z)
              · rw [List.mem_singleton.mp hp]; exact z3
            refine r_dec (fun hlq => ?_) (fun hlq => ?_)
            · walk_at "go"
              refine ⟨vu, y, u, q, rfl, au, aq4, (zm iu).mono (by decide), (zm iq).mono (by decide), ?_⟩
              walk_at "go"
              refine r_dec (fun hqu => ?_) (fun hqu => ?_)
              · walk_at "go"
                refine ⟨a, xs, rows, y, q, E, M, M, rfl, lst0 e4 ha, hrows.x0 e4, aq4, L.ok iq, fun v H5 n5 a5 => ?_⟩
                walk_at "go"
                have e5 := e4.trans n5
                refine ⟨g, v, goal, tot rows q, rfl, hg.x0 e5, a5, (zz L.goal).mono (by decide), (zz (tt iq)).mono (by decide), ?_⟩
                walk_at "go"
                refine r_dec (fun hT => ?_) (fun hT => ?_)
                · walk_at "go"
                  exact ⟨n4.trans n5, y, vu, q, u, _, rfl, aq4.x0 n5, au.x0 n5, iq, iu, by grind, ut, hT, h2, snoc q u (by grind) Rat.le_refl (.inl Rat.le_refl)⟩
                · walk_at "go"
                  exact ⟨n4.trans n5, vl, y, l, q, _, rfl, al.x0 n5, aq4.x0 n5, il, iq, by grind, qt, h1, Rat.not_lt.mp hT, snoc l q Rat.le_refl (by grind) (.inr Rat.le_refl)⟩
              · walk_at "run"
                exact stay (snoc l u Rat.le_refl Rat.le_refl (.inr (Rat.not_lt.mp hqu)))
            · walk_at "run"
              exact stay (snoc l u Rat.le_refl Rat.le_refl (.inl (Rat.not_lt.mp hlq)))
          · rintro σ' H4 ⟨n4, vl, vu, l, u, u4, rfl, al, au, il, iu, lu, ut, h1, h2, hb⟩
            rw [ls, List.take_length] at hb
            exact ⟨e3.trans n4, vl, vu, l, u, u4, rfl, al, au, il, iu, lu, ut, h1, h2, lin_brk L.row BR lu ut hb⟩
        · rintro σ' H5 ⟨e5, vl, vu, l, u, u4, rfl, al, au, il, iu, lu, ut, h1, h2, hl⟩
          obtain ⟨lv, X, x0, x1, x2, x3⟩ := onl_lev L h1 h2 il iu lu ut hl
          have i1 := L.goal.sub (tt il) (by grind)
          have i2 := (tt iu).sub (tt il) (by grind)
          have i3 := iu.sub il lu
          have r0 : 0 < tot rows u - tot rows l := by grind
          walk_at "go"
          refine ⟨a, xs, rows, vl, l, E, M, M, rfl, lst0 e5 ha, hrows.x0 e5, al, L.ok il, fun v1 H6 n6 a6 => ?_⟩
          walk_at "go"
          have e6 := e5.trans n6
          refine ⟨a, xs, rows, vu, u, E, M, M, rfl, lst0 e6 ha, hrows.x0 e6, au.x0 n6, L.ok iu, fun v2 H7 n7 a7 => ?_⟩
          walk_at "go"
          refine k_two a7 (a6.x0 n7) ((zz (tt iu)).mono (by decide)) ((zz (tt il)).mono (by decide)) (tt iu).nn (tt il).nn (by grind) fun v3 H8 n8 a8 => ?_
          walk_at "go"
          have e8 := (e6.trans n7).trans n8
          refine k_two (hg.x0 e8) ((a6.x0 n7).x0 n8) ((zz L.goal).mono (by decide)) ((zz (tt il)).mono (by decide)) L.goal.nn (tt il).nn (by grind) fun v4 H9 n9 a9 => ?_
          walk_at "go"
          have m9 := ((n6.trans n7).trans n8).trans n9
          refine k_two (au.x0 m9) (al.x0 m9) ((zm iu).mono (by decide)) ((zm il).mono (by decide)) iu.nn il.nn lu fun v5 H10 n10 a10 => ?_
          walk_at "go"
          refine k_two (a9.x0 n10) a10 ((zz i1).mono (by decide)) ((zm i3).mono (by decide)) i1.nn i3.nn trivial fun v6 H11 n11 a11 => ?_
          walk_at "go"
          have s6 : Sz 322 ((goal - tot rows l) * (u - l)) := sz_mul (zz i1) (zm i3)
          have p6 : 0 ≤ (goal - tot rows l) * (u - l) := mul_nn i1.nn i3.nn
          refine k_two a11 (a8.x0 ((n9.trans n10).trans n11)) (s6.mono (by decide)) ((zz i2).mono (by decide)) p6 i2.nn r0 fun v7 H12 n12 a12 => ?_
          walk_at "go"
          have s7 : Sz 483 ((goal - tot rows l) * (u - l) / (tot rows u - tot rows l)) := sz_div s6 (zz i2) r0
          have p7 : 0 ≤ (goal - tot rows l) * (u - l) / (tot rows u - tot rows l) := by
            have := lev_line (fun x y => tot_mono rows) il.nn lu ut hl h1 h2
            have := this.2.1
            unfold onl at this
            grind
          have m12 := (((m9.trans n10).trans n11).trans n12)
          refine k_two (al.x0 m12) a12 ((zm il).mono (by decide)) (s7.mono (by decide)) il.nn p7 trivial fun v8 H13 n13 a13 => ?_
          walk_at "go"
          exact k v8 _ X H13 lv x0 x1 x2 x3 ((e5.trans m12).trans n13) a13
end
end Yk

set_option maxHeartbeats 4000000
namespace Yk
open PySem PySem.Spec PyProof.Rows L2

section
variable {P : Program} {w : World} {K : PySem.W.Frag} {mg : Str → Option Value} {base : Heap} {f : Addr} {fd : FuncData}
theorem k_bit {H : Hp} {b : Bag} {Q : VK} {E : XK} (hb : BagAt K H b) (k : ∀ v q H', Am K H' v q → In 12 12 q → BagAt K H' b → Ext [b.a] H H' → Q v H') : spBit K [.ref b.a] H Q E :=
  ⟨b, rfl, hb, fun v n d H' hn d0 hd a b' e => k v _ H' a (In.frac d0 hd (by omega)) b' e⟩
theorem of_int {H : Hp} {b : Bag} {l : Addr} {ns : List Int} {Q : VK} {E : XK} (hb : BagAt K H b) (hl : SqL K H l (ns.map V.int)) (hne : b.a ≠ l) (h0 : 0 < ns.length) (h4 : ns.length ≤ 4000) (k : ∀ x H', x ∈ ns → BagAt K H' b → Ext [b.a] H H' → Q (.int x) H') : spOf K [.ref b.a, .ref l] H Q E :=
  ⟨b, l, _, rfl, hb, hl, hne, by rw [List.length_map]; exact h0, by rw [List.length_map]; exact h4, fun i x H' hx hb' e => by
    rw [List.getElem?_map] at hx
    cases e2 : ns[i]? with
    | none => rw [e2] at hx; cases hx
    | some z => rw [e2] at hx; cases hx; exact k z H' (List.mem_of_getElem? e2) hb' e⟩
theorem p9 : (10 : Int) ^ Int.toNat 9 = 1000000000 := by decide
def spGrid (K : PySem.W.Frag) : Sp := fun vs H Q _ => ∃ b, vs = [.ref b.a] ∧ BagAt K H b ∧ ∀ (g : Nat) H', 0 < g → g ≤ 2 ^ 60 → BagAt K H' b → Ext [b.a] H H' → Q (.int (g : Int)) H'
abbrev s_law_grid : Stmt := top 48
theorem c_law_grid : FnScope ["_law_bag_here"] ["_law_bag_here"] (defScope s_law_grid) := ⟨rfl, rfl, rfl, by decide +kernel, rfl, by decide +kernel, by decide +kernel⟩
theorem f_law_grid (F : FunD K "_law_grid" "_law_grid" (defArgs s_law_grid) (defBody s_law_grid) (defScope s_law_grid) [] [] f fd) (hm : mg "_law_grid" = some (.ref f)) (F_law_draw : Fn P w K mg base 1 "_law_draw" (spDraw K)) (F_law_of : Fn P w K mg base 2 "_law_of" (spOf K)) : Fn P w K mg base 3 "_law_grid" (spGrid K) := by
  refine fn_def F hm c_law_grid (fun vs H Q E h => ?_) (fun _ _ _ _ _ _ us hl => match us, hl with | [_], _ => rfl) (fun cdv A outer s H vs Q E hr h => ?_)
  · obtain ⟨b, rfl, _⟩ := h
    rfl
  · obtain ⟨b, rfl, hb, k⟩ := h
    have nd := c_law_grid.nd
    refine ⟨_, (pss_one (ps_ret (pe_fn F_law_of (hr.mono (by decide)) (pa_cons (pv 0) (pa_cons (pe_lst (pa_cons pe_int (pa_cons pe_int (pa_cons pe_int (pa_cons pe_int (pa_cons pe_int (pa_cons (pe_op op_add pe_int (pe_fn F_law_draw (hr.mono (by decide)) (pa_cons (pv 0) (pa_cons (pe_op op_pow pe_int pe_int) pa_nil)))) (pa_cons (pe_op op_add pe_int (pe_op op_mulW (pe_fn F_law_draw (hr.mono (by decide)) (pa_cons (pv 0) (pa_cons (pe_op op_pow pe_int pe_int) pa_nil))) (pe_fn F_law_draw (hr.mono (by decide)) (pa_cons (pv 0) (pa_cons (pe_op op_pow pe_int pe_int) pa_nil))))) pa_nil)))))))) pa_nil))))), ?_⟩
    show (_ : TS) _ [some _] _
    try dsimp only [cxOf, Cx.nox]
    walk_at "go"
    rw [p9]
    refine k_draw hb (by decide) (by decide) fun x1 H1 l1 u1 b1 n1 => ?_
    walk_at "go"
    rw [p9]
    refine k_draw b1 (by decide) (by decide) fun x2 H2 l2 u2 b2 n2 => ?_
    walk_at "go"
    rw [p9]
    refine k_draw b2 (by decide) (by decide) fun x3 H3 l3 u3 b3 n3 => ?_
    have hp : x2 * x3 ≤ 1000000000 * 1000000000 := Int.mul_le_mul (by omega) (by omega) l3 (by decide)
    have h0 : 0 ≤ x2 * x3 := Int.mul_nonneg l2 l3
    have mw : CMulW x2 x3 := cmul (m := 31) (n := 31) (Nat.lt_of_le_of_lt (by omega : x2.natAbs ≤ 1000000000) (by decide)) (Nat.lt_of_le_of_lt (by omega : x3.natAbs ≤ 1000000000) (by decide)) (by decide) (by decide) (by decide)
    walk_at "go"
    rename_i p hp'
    refine of_int (ns := [1, 1, 2, 3, 12, 1 + x1, 1 + x2 * x3]) (b3.new hp') lstS (b3.ne hp') (Nat.zero_lt_succ _) (show 7 ≤ 4000 by decide) fun x H4 hx b4 n4 => ?_
    have hb : 0 < x ∧ x ≤ 1000000000000000001 := by
      simp only [List.mem_cons, List.not_mem_nil, or_false] at hx
      rcases hx with rfl | rfl | rfl | rfl | rfl | rfl | rfl <;> omega
    have ex : x = ((x.toNat : Nat) : Int) := by omega
    rw [ex]
    exact k x.toNat H4 (by omega) (Nat.le_trans (by omega : x.toNat ≤ 1000000000000000001) (by decide)) b4 (((n1.trans n2).trans n3).trans (Ext.trans (Ext.refl.new hp') n4))
def spFine (K : PySem.W.Frag) : Sp := fun vs H Q _ => ∃ (b : Bag) (g : Nat), vs = [.ref b.a, .int (g : Int)] ∧ BagAt K H b ∧ 0 < g ∧ g ≤ 2 ^ 60 ∧ ∀ v q H', Am K H' v q → In (12 * g) 2001 q → BagAt K H' b → Ext [b.a] H H' → Q v H'
theorem five_in {D : Nat} : ∀ q ∈ ([0, 1, 1000, 1001, 999] : List Rat), In D 2001 q := by
  intro q hq
  simp only [List.mem_cons, List.not_mem_nil, or_false] at hq
  rcases hq with rfl | rfl | rfl | rfl | rfl
  · exact In.zero
  · exact In.nat (n := 1) (by decide)
  · exact In.nat (n := 1000) (by decide)
  · exact In.nat (n := 1001) (by decide)
  · exact In.nat (n := 999) (by decide)
abbrev s_law_fine : Stmt := top 49
theorem c_law_fine : FnScope ["_law_bag_here", "_law_grid_here", "_law_shape"] ["_law_bag_here", "_law_grid_here"] (defScope s_law_fine) := ⟨rfl, rfl, rfl, by decide +kernel, rfl, by decide +kernel, by decide +kernel⟩
theorem f_law_fine (F : FunD K "_law_fine" "_law_fine" (defArgs s_law_fine) (defBody s_law_fine) (defScope s_law_fine) [] [] f fd) (hm : mg "_law_fine" = some (.ref f)) (F_law_draw : Fn P w K mg base 1 "_law_draw" (spDraw K)) (F_law_of : Fn P w K mg base 2 "_law_of" (spOf K)) (F_law_pair : Fn P w K mg base 1 "_law_pair" (spPair K)) (F_law_bit : Fn P w K mg base 3 "_law_bit" (spBit K)) : Fn P w K mg base 4 "_law_fine" (spFine K) := by
  refine fn_def F hm c_law_fine (fun vs H Q E h => ?_) (fun _ _ _ _ _ _ us hl => match us, hl with | [_, _], _ => rfl) (fun cdv A outer s H vs Q E hr h => ?_)
  · obtain ⟨b, g, rfl, _⟩ := h
    rfl
  · obtain ⟨b, g, rfl, hb, g0, g9, k⟩ := h
    have nd := c_law_fine.nd
    refine ⟨_, (pss_cons (ps_set (i := 2) nd rfl (by first | exact Or.inl rfl | exact Or.inr rfl) (pe_fn F_law_draw (hr.mono (by decide)) (pa_cons (pv 0) (pa_cons pe_int pa_nil))))
      (pss_cons (ps_if (pt_cmpR op_eq (pv 2) pe_int (nomark _))
        (pss_one (ps_ret (pe_fn F_law_of (hr.mono (by decide)) (pa_cons (pv 0) (pa_cons (pe_lst (pa_cons (pe_tup (pa_cons pe_int (pa_cons pe_int pa_nil))) (pa_cons (pe_tup (pa_cons pe_int (pa_cons pe_int pa_nil))) (pa_cons (pe_tup (pa_cons pe_int (pa_cons pe_int pa_nil))) (pa_cons (pe_tup (pa_cons pe_int (pa_cons pe_int pa_nil))) (pa_cons (pe_tup (pa_cons pe_int (pa_cons pe_int pa_nil))) pa_nil)))))) pa_nil)))))
        pss_nil)
      (pss_cons (ps_if (pt_cmpR op_lt (pv 2) pe_int (nomark _))
        (pss_one (ps_ret (pe_fn F_law_bit (hr.mono (by decide)) (pa_cons (pv 0) pa_nil))))
        pss_nil)
      (pss_one (ps_ret (pe_fn F_law_pair (hr.mono (by decide)) (pa_cons (pe_op op_add (pe_op op_mulW (pe_fn F_law_of (hr.mono (by decide)) (pa_cons (pv 0) (pa_cons (pe_lst (pa_cons pe_int (pa_cons pe_int (pa_cons (pe_fn F_law_draw (hr.mono (by decide)) (pa_cons (pv 0) (pa_cons pe_int pa_nil))) (pa_cons (pe_fn F_law_draw (hr.mono (by decide)) (pa_cons (pv 0) (pa_cons pe_int pa_nil))) pa_nil))))) pa_nil))) (pv 1)) (pe_fn F_law_draw (hr.mono (by decide)) (pa_cons (pv 0) (pa_cons (pv 1) pa_nil)))) (pa_cons (pv 1) pa_nil)))))))), ?_⟩
    show (_ : TS) _ [some _, some _, none] _
    try dsimp only [cxOf, Cx.nox]
    walk_at "go"
    refine k_draw hb (by decide) (by decide) fun x1 H1 l1 u1 b1 n1 => ?_
    walk_at "go"
    refine r_dec (fun h1 => ?_) (fun h1 => ?_)
    · walk_at "go"
      refine of_am (qs := [0, 1, 1000, 1001, 999]) (by walk_at "bag") lstS (BagAt.ne' (K := K) (by assumption) (by walk_at "bag")) ?_ (by decide) (by decide) fun v q H' hq hm hb' e => ?_
      · exact Ams.cons ⟨_, rfl, by walk_at "sq"⟩ (Ams.cons ⟨_, rfl, by walk_at "sq"⟩ (Ams.cons ⟨_, rfl, by walk_at "sq"⟩ (Ams.cons ⟨_, rfl, by walk_at "sq"⟩ (Ams.cons ⟨_, rfl, by walk_at "sq"⟩ Ams.nil))))
      · exact k v q H' hm (five_in q hq) hb' (Ext.trans (by walk_at "ext") e)
    · walk_at "go"
      refine r_dec (fun h2 => ?_) (fun h2 => ?_)
      · walk_at "go"
        refine k_bit b1 fun v q H' a iq b' e => ?_
        walk_at "go"
        exact k v q H' a ((iq.up (Nat.dvd_mul_right _ _)).most (by decide)) b' (n1.trans e)
      · walk_at "go"
        refine k_draw b1 (by decide) (by decide) fun x2 H2 l2 u2 b2 n2 => ?_
        walk_at "go"
        refine k_draw b2 (by decide) (by decide) fun x3 H3 l3 u3 b3 n3 => ?_
        walk_at "go"
        rename_i p hp'
        refine of_int (ns := [0, 3, x2, x3]) (b3.new hp') lstS (b3.ne hp') (Nat.zero_lt_succ _) (show 4 ≤ 4000 by decide) fun x H4 hx b4 n4 => ?_
        have hxb : 0 ≤ x ∧ x ≤ 2000 := by
          simp only [List.mem_cons, List.not_mem_nil, or_false] at hx
          rcases hx with rfl | rfl | rfl | rfl <;> omega
        have gz : (g : Int).natAbs < 2 ^ 61 := Nat.lt_of_le_of_lt (show (g : Int).natAbs ≤ 2 ^ 60 from g9) (by decide)
        have mw : CMulW x (g : Int) := cmul (m := 20) (n := 61) (Nat.lt_of_le_of_lt (by omega : x.natAbs ≤ 2000) (by decide)) gz (by decide) (by decide) (by decide)
        walk_at "go"
        have gI : (g : Int) ≤ 2 ^ 60 := by exact_mod_cast g9
        refine k_draw b4 (by omega) (Int.lt_of_le_of_lt gI (by decide)) fun x4 H5 l4 u4 b5 n5 => ?_
        walk_at "go"
        have ex : x = ((x.toNat : Nat) : Int) := by omega
        have ey : x4 = ((x4.toNat : Nat) : Int) := by omega
        have eq : x * (g : Int) + x4 = ((x.toNat * g + x4.toNat : Nat) : Int) := by push_cast; rw [← ex, ← ey]
        have hm : x.toNat * g ≤ 2000 * g := Nat.mul_le_mul_right g (by omega)
        have hs : x.toNat * g + x4.toNat ≤ 2001 * g := by omega
        have hs2 : 2001 * g < 2 ^ 8900 := Nat.lt_of_le_of_lt (Nat.mul_le_mul_left 2001 g9) (Nat.lt_of_lt_of_le (by decide : 2001 * 2 ^ 60 < 2 ^ 100) (Nat.pow_le_pow_right (by decide) (by decide)))
        have hs3 : g < 2 ^ 8900 := Nat.lt_of_le_of_lt g9 (Nat.pow_lt_pow_right (by decide) (by decide))
        refine ⟨x.toNat * g + x4.toNat, g, by rw [eq], g0, Nat.lt_of_le_of_lt hs hs2, hs3, fun v H' e a => ?_⟩
        walk_at "go"
        exact k v _ H' a (In.frac g0 (Nat.dvd_mul_left _ _) hs) (b5.x0 e) ((((n1.trans n2).trans n3).trans (Ext.trans (Ext.refl.new hp') n4)).trans (n5.trans e.of0))
def ManOk (D M : Nat) (man : Option (Rat × Rat)) : Prop := ∀ l u, man = some (l, u) → In D M l ∧ In D M u ∧ l ≤ u
def spWish (K : PySem.W.Frag) : Sp := fun vs H Q _ => ∃ (b : Bag) (g : Nat), vs = [.ref b.a, .int (g : Int)] ∧ BagAt K H b ∧ 0 < g ∧ g ≤ 2 ^ 60 ∧ ∀ v man H', ManIs K H' v man → ManOk (12 * g) 4096 man → BagAt K H' b → Ext [b.a] H H' → Q v H'
theorem man2 {D M : Nat} {l u : Rat} (h1 : In D M l) (h2 : In D M u) (h3 : l ≤ u) : ManOk D M (some (l, u)) := fun l' u' e => by cases e; exact ⟨h1, h2, h3⟩
abbrev s_law_wish : Stmt := top 50
theorem c_law_wish : FnScope ["_law_bag_here", "_law_grid_here", "_law_shape", "_law_a"] ["_law_bag_here", "_law_grid_here"] (defScope s_law_wish) := ⟨rfl, rfl, rfl, by decide +kernel, rfl, by decide +kernel, by decide +kernel⟩
theorem f_law_wish (F : FunD K "_law_wish" "_law_wish" (defArgs s_law_wish) (defBody s_law_wish) (defScope s_law_wish) [] [] f fd) (hm : mg "_law_wish" = some (.ref f)) (F_law_draw : Fn P w K mg base 1 "_law_draw" (spDraw K)) (F_law_of : Fn P w K mg base 2 "_law_of" (spOf K)) (F_law_bit : Fn P w K mg base 3 "_law_bit" (spBit K)) (F_law_fine : Fn P w K mg base 4 "_law_fine" (spFine K)) (F_law_more : Fn P w K mg base 1 "_law_more" (spMore K)) (F_law_add : Fn P w K mg base 2 "_law_add" (sp2 (fun _ _ => True) (· + ·) K)) : Fn P w K mg base 5 "_law_wish" (spWish K) := by
  refine fn_def F hm c_law_wish (fun vs H Q E h => ?_) (fun _ _ _ _ _ _ us hl => match us, hl with | [_, _], _ => rfl) (fun cdv A outer s H vs Q E hr h => ?_)
  · obtain ⟨b, g, rfl, _⟩ := h
    rfl
  · obtain ⟨b, g, rfl, hb, g0, g9, k⟩ := h
    have nd := c_law_wish.nd
    refine ⟨_, (pss_cons (ps_set (i := 2) nd rfl (by first | exact Or.inl rfl | exact Or.inr rfl) (pe_fn F_law_draw (hr.mono (by decide)) (pa_cons (pv 0) (pa_cons pe_int pa_nil))))
      (pss_cons (ps_if (pt_cmpR op_eq (pv 2) pe_int (nomark _))
        (pss_one (ps_ret (pe_tup pa_nil)))
        pss_nil)
      (pss_cons (ps_set (i := 3) nd rfl (by first | exact Or.inl rfl | exact Or.inr rfl) (pe_fn F_law_of (hr.mono (by decide)) (pa_cons (pv 0) (pa_cons (pe_lst (pa_cons (pe_tup (pa_cons pe_int (pa_cons pe_int pa_nil))) (pa_cons (pe_fn F_law_bit (hr.mono (by decide)) (pa_cons (pv 0) pa_nil)) (pa_cons (pe_fn F_law_fine (hr.mono (by decide)) (pa_cons (pv 0) (pa_cons (pv 1) pa_nil))) pa_nil)))) pa_nil))))
      (pss_cons (ps_if (pt_cmpR op_lt (pv 2) pe_int (nomark _))
        (pss_one (ps_ret (pe_tup (pa_cons (pv 3) (pa_cons (pv 3) pa_nil)))))
        pss_nil)
      (pss_cons (ps_if (pt_cmpR op_lt (pv 2) pe_int (nomark _))
        (pss_one (ps_ret (pe_ifExp (pt_not (pt_val (pe_fn F_law_more (hr.mono (by decide)) (pa_cons (pv 3) (pa_cons (pe_tup (pa_cons pe_int (pa_cons pe_int pa_nil))) pa_nil))))) (pe_tup (pa_cons (pv 3) (pa_cons (pe_tup (pa_cons pe_int (pa_cons pe_int pa_nil))) pa_nil))) (pe_tup (pa_cons (pv 3) (pa_cons (pv 3) pa_nil))))))
        pss_nil)
      (pss_cons (ps_if (pt_cmpR op_eq (pv 2) pe_int (nomark _))
        (pss_one (ps_ret (pe_tup (pa_cons (pv 3) (pa_cons (pe_fn F_law_add (hr.mono (by decide)) (pa_cons (pv 3) (pa_cons (pe_fn F_law_fine (hr.mono (by decide)) (pa_cons (pv 0) (pa_cons (pv 1) pa_nil))) pa_nil))) pa_nil)))))
        pss_nil)
      (pss_one (ps_ret (pe_tup (pa_cons (pv 3) (pa_cons (pe_fn F_law_add (hr.mono (by decide)) (pa_cons (pv 3) (pa_cons (pe_fn F_law_bit (hr.mono (by decide)) (pa_cons (pv 0) pa_nil)) pa_nil))) pa_nil))))))))))), ?_⟩
    show (_ : TS) _ [some _, some _, none, none] _
    try dsimp only [cxOf, Cx.nox]
    have D0 : 0 < 12 * g := by omega
    have D9 : 12 * g ≤ 2 ^ 64 := Nat.le_trans (Nat.mul_le_mul_left 12 g9) (by decide)
    have zz : ∀ {q : Rat}, In (12 * g) 2001 q → Sz 4000 q := fun h => (h.sz (k := 20) D0 D9 (by decide)).mono (by decide)
    walk_at "go"
    refine k_draw hb (by decide) (by decide) fun x1 H1 l1 u1 b1 n1 => ?_
    walk_at "go"
    refine r_dec (fun h1 => ?_) (fun h1 => ?_)
    · walk_at "go"
      exact k _ none _ ⟨_, rfl, tupS⟩ (fun l u e => by cases e) (b1.new (by assumption)) (n1.new (by assumption))
    · walk_at "go"
      refine k_bit (b1.new (by assumption)) fun v2 q2 H2 a2 i2 b2 n2 => ?_
      walk_at "go"
      refine ⟨b, g, rfl, b2, g0, g9, fun v3 q3 H3 a3 i3 b3 n3 => ?_⟩
      walk_at "go"
      rename_i p hp p' hp'
      have i2' : In (12 * g) 2001 q2 := (i2.up (Nat.dvd_mul_right _ _)).most (by decide)
      have t0 : Am K H3 (.ref p) 0 := Am.b (b1.new hp) (n2.trans n3) ⟨p, rfl, tupS⟩
      refine of_am (qs := [0, q2, q3]) (by walk_at "bag") lstS (BagAt.ne' (K := K) (by assumption) (by walk_at "bag")) ?_ (Nat.zero_lt_succ _) (show 3 ≤ 4000 by decide) fun v q H4 hq hm b4 n4 => ?_
      · exact Ams.cons (t0.n hp') (Ams.cons ((a2.b b2 n3).n hp') (Ams.cons (a3.n hp') Ams.nil))
      have iq : In (12 * g) 2001 q := by
        simp only [List.mem_cons, List.not_mem_nil, or_false] at hq
        rcases hq with rfl | rfl | rfl
        · exact In.zero
        · exact i2'
        · exact i3
      have e4 : Ext [b.a] H H4 := (n1.trans ((Ext.refl.new hp).trans (n2.trans n3))).trans ((Ext.refl.new hp').trans n4)
      have iq4 := iq.most (M' := 4096) (by decide)
      walk_at "go"
      refine r_dec (fun h2 => ?_) (fun h2 => ?_)
      · walk_at "go"
        exact k _ (some (q, q)) _ ⟨_, v, v, rfl, tupS, hm.n (by assumption), hm.n (by assumption)⟩ (man2 iq4 iq4 Rat.le_refl) (b4.new (by assumption)) (e4.new (by assumption))
      · walk_at "go"
        refine r_dec (fun h3 => ?_) (fun h3 => ?_)
        · walk_at "go"
          refine ⟨v, _, q, 1000, rfl, hm.n (by assumption), ⟨_, rfl, tupS⟩, zz iq, ⟨by decide, by decide⟩, ?_⟩
          walk_at "go"
          refine r_ndec (fun h5 => ?_) (fun h5 => ?_)
          · walk_at "go"
            refine k _ (some (q, 1000)) _ ⟨_, v, _, rfl, tupS, by walk_at "am", ⟨_, rfl, by walk_at "sq"⟩⟩ (man2 iq4 (In.nat (n := 1000) (by decide)) (Rat.not_lt.mp h5)) (by walk_at "bag") (e4.trans (by walk_at "ext"))
          · walk_at "go"
            refine k _ (some (q, q)) _ ⟨_, v, v, rfl, tupS, by walk_at "am", by walk_at "am"⟩ (man2 iq4 iq4 Rat.le_refl) (by walk_at "bag") (e4.trans (by walk_at "ext"))
        · walk_at "go"
          have hadd : ∀ (v5 : V) (q5 : Rat) (H5 : Hp) (R : VK), Am K H5 v5 q5 → In (12 * g) 2001 q5 → BagAt K H5 b → Ext [b.a] H4 H5 → (∀ v6 H6, Ext [] H5 H6 → Am K H6 v6 (q + q5) → R v6 H6) → sp2 (fun _ _ => True) (· + ·) K [v, v5] H5 R E0 := fun v5 q5 H5 R a5 i5 b5 n5 kk => k_two (hm.b b4 n5) a5 (zz iq) (zz i5) iq.nn i5.nn trivial kk
          have fin : ∀ (v6 : V) (q5 : Rat) (H6 : Hp) (p : Addr), H6 p = none → Am K H6 v6 (q + q5) → Am K H6 v q → In (12 * g) 2001 q5 → BagAt K H6 b → Ext [b.a] H4 H6 → Q (.ref p) (upd H6 p (.tup [v, v6])) := fun v6 q5 H6 p hp6 a6 av i5 b6 n6 =>
            k _ (some (q, q + q5)) _ ⟨p, v, v6, rfl, tupS, av.n hp6, a6.n hp6⟩ (man2 iq4 ((iq.add i5).most (by decide)) (by have := i5.nn; grind)) (b6.new hp6) ((e4.trans n6).new hp6)
          refine r_dec (fun h5 => ?_) (fun h5 => ?_)
          · walk_at "go"
            refine ⟨b, g, rfl, b4, g0, g9, fun v5 q5 H5 a5 i5 b5 n5 => ?_⟩
            walk_at "go"
            refine hadd v5 q5 H5 _ a5 i5 b5 n5 fun v6 H6 n6 a6 => ?_
            walk_at "go"
            exact fin v6 q5 H6 _ (by assumption) a6 ((hm.b b4 n5).x0 n6) i5 (b5.x0 n6) (n5.trans n6.of0)
          · walk_at "go"
            refine k_bit b4 fun v5 q5 H5 a5 i5 b5 n5 => ?_
            walk_at "go"
            have i5' : In (12 * g) 2001 q5 := (i5.up (Nat.dvd_mul_right _ _)).most (by decide)
            refine hadd v5 q5 H5 _ a5 i5' b5 n5 fun v6 H6 n6 a6 => ?_
            walk_at "go"
            exact fin v6 q5 H6 _ (by assumption) a6 ((hm.b b4 n5).x0 n6) i5' (b5.x0 n6) (n5.trans n6.of0)
end
end Yk

set_option maxHeartbeats 4000000
namespace Yk
open PySem PySem.Spec PyProof.Rows L2

structure RowG (D : Nat) (r : Row) : Prop where
  ok : RowOk D 4096 r
  lu : ∀ l u, r.man = some (l, u) → l ≤ u
section
variable {K : PySem.W.Frag} {H H1 : Hp} {Q : VK}
/-! rows as data -/
theorem dp_man {v : V} {man : Option (Rat × Rat)} (h : ManIs K H v man) : ∃ d, Dp K H v d ∧ d.canLay0 = true ∧ d.depth ≤ 2 := by
  cases man with
  | none => obtain ⟨a, rfl, h⟩ := h; exact ⟨.tuple [], .tup h .nil, rfl, by decide⟩
  | some q => obtain ⟨a, v1, v2, rfl, h, a1, a2⟩ := h; exact ⟨_, .tup h (.cons (dp_am a1) (.cons (dp_am a2) .nil)), rfl, by simp [PyData.depth, PyData.depthAll]⟩
theorem dp_row {v : V} {r : Row} (h : RowIs K H v r) : ∃ d, Dp K H v d ∧ d.canLay0 = true ∧ d.depth ≤ 3 := by
  obtain ⟨a, mv, bv, rfl, h, h1, h2⟩ := h
  obtain ⟨d, e1, e2, e3⟩ := dp_man h1
  refine ⟨_, .tup h (.cons e1 (.cons (.int _) (.cons (dp_am h2) .nil))), ?_, ?_⟩
  · simp [PyData.canLay0, PyData.canLayAll0, e2]
  · simp [PyData.depth, PyData.depthAll]
    omega
theorem dp_rows : ∀ {xs : List V} {rows : List Row}, RowsIs K H xs rows → ∃ ds, DpAll K H xs ds ∧ PyData.canLayAll0 ds = true ∧ PyData.depthAll ds ≤ 3 ∧ ds.length = rows.length
  | [], [], _ => ⟨[], .nil, rfl, by simp [PyData.depthAll], rfl⟩
  | v :: xs, rows, h => by
    obtain ⟨r, t, rfl, h1, h2⟩ := Rel.cases h
    obtain ⟨d, a1, a2, a3⟩ := dp_row h1
    obtain ⟨ds, b1, b2, b3, b4⟩ := dp_rows h2
    refine ⟨d :: ds, .cons a1 b1, by simp [PyData.canLayAll0, a2, b2], by simp [PyData.depthAll]; omega, by simp [b4]⟩
  | [], _ :: _, h => absurd h.1 (by simp)
theorem ne_rows {c p : Addr} {xs : List V} {rows : List Row} (h : RowsIs K H xs rows) (hc : SqL K H c xs) (hp : SqL K H p []) (k : Q (.bl (!rows.isEmpty)) H) : rNeD K (.ref c) (.ref p) H Q := by
  obtain ⟨ds, b1, b2, b3, b4⟩ := dp_rows h
  refine ⟨.list ds, .list [], .lst hc b1, .lst hp .nil, ?_, rfl, ?_⟩
  · simp [SeqAt.shaped, PyData.canLay0, b2, PyData.depth]
    omega
  · have e : PyData.eqv (.list ds) (.list []) = rows.isEmpty := by
      cases ds with
      | nil => cases rows with
        | nil => rfl
        | cons r t => simp at b4
      | cons d ds => cases rows with
        | nil => simp at b4
        | cons r t => rfl
    rw [e]
    exact k
end
/-- rows while they are made -/
structure WS (K : PySem.W.Frag) (H H' : Hp) (b : Bag) (c : Addr) (g : Nat) (xs : List V) (rows : List Row) (lv : V) (lq : Rat) : Prop where
  at_ : H' c = some (.lst xs)
  rel : RowsIs K H' xs rows
  ok : ∀ r ∈ rows, RowG (12 * g) r
  bag : BagAt K H' b
  ext : Ext [b.a] H H'
  lid : Am K H' lv lq
  nb : c ≠ b.a
section
variable {K : PySem.W.Frag} {H H1 H2 : Hp} {b : Bag} {c : Addr} {g : Nat} {xs : List V} {rows : List Row} {lv : V} {lq : Rat}
theorem WS.x0 (e : Ext [] H1 H2) (h : WS K H H1 b c g xs rows lv lq) : WS K H H2 b c g xs rows lv lq := ⟨e _ _ h.at_ (fun z => nomatch z), h.rel.x0 e, h.ok, h.bag.x0 e, h.ext.trans e.of0, h.lid.x0 e, h.nb⟩
theorem WS.bx (e : Ext [b.a] H1 H2) (hb : BagAt K H2 b) (h : WS K H H1 b c g xs rows lv lq) : WS K H H2 b c g xs rows lv lq :=
  ⟨e _ _ h.at_ (by simpa using h.nb), h.rel.x e (bagS h.bag), h.ok, hb, h.ext.trans e, h.lid.b h.bag e, h.nb⟩
end
theorem RowIs.b {K : PySem.W.Frag} {H H1 : Hp} {b : Bag} {v : V} {r : Row} (hb : BagAt K H b) (e : Ext [b.a] H H1) (h : RowIs K H v r) : RowIs K H1 v r := h.x e (bagS hb)
theorem ManIs.b {K : PySem.W.Frag} {H H1 : Hp} {b : Bag} {v : V} {m : Option (Rat × Rat)} (hb : BagAt K H b) (e : Ext [b.a] H H1) (h : ManIs K H v m) : ManIs K H1 v m := h.x e (bagS hb)
section
variable {P : Program} {w : World} {K : PySem.W.Frag} {mg : Str → Option Value} {base : Heap} {f : Addr} {fd : FuncData}
def spWishes (K : PySem.W.Frag) : Sp := fun vs H Q _ => ∃ (b : Bag) (n g : Nat), vs = [.ref b.a, .int (n : Int), .int (g : Int)] ∧ BagAt K H b ∧ n ≤ 8 ∧ 0 < g ∧ g ≤ 2 ^ 60 ∧ ∀ c xs rows H', H c = none → H' c = some (.lst xs) → RowsIs K H' xs rows → (∀ r ∈ rows, RowG (12 * g) r) → rows.length ≤ n → BagAt K H' b → Ext [b.a] H H' → Q (.ref c) H'
theorem rowg_ok {D w : Nat} {man : Option (Rat × Rat)} {q : Rat} (h1 : ManOk D 4096 man) (h2 : In D 4096 q) (h0 : 0 < w) (h12 : w ≤ 12) : RowG D ⟨man, w, q⟩ := ⟨⟨h0, h12, h2, fun l u e => ⟨(h1 l u e).1, (h1 l u e).2.1⟩⟩, fun l u e => (h1 l u e).2.2⟩
theorem RowG.man {D : Nat} {r : Row} (h : RowG D r) : ManOk D 4096 r.man := fun l u e => ⟨(h.ok.m l u e).1, (h.ok.m l u e).2, h.lu l u e⟩
theorem of_two {H : Hp} {b : Bag} {l : Addr} {x y : V} {Q : VK} {E : XK} (hb : BagAt K H b) (hl : SqL K H l [x, y]) (hne : b.a ≠ l) (k : ∀ z H', z = x ∨ z = y → BagAt K H' b → Ext [b.a] H H' → Q z H') : spOf K [.ref b.a, .ref l] H Q E :=
  ⟨b, l, _, rfl, hb, hl, hne, Nat.zero_lt_succ _, show 2 ≤ 4000 by decide, fun i z H' hx hb' e => by
    match i, hx with
    | 0, hx => cases hx; exact k _ H' (.inl rfl) hb' e
    | 1, hx => cases hx; exact k _ H' (.inr rfl) hb' e
    | i + 2, hx => cases hx⟩
abbrev s_law_wishes : Stmt := top 51
theorem c_law_wishes : FnScope ["_law_bag_here", "_law_bulk", "_law_grid_here", "_law_many", "_law_alike", "_law_lid", "_law_rows", "_law_k", "_law_row"] ["_law_bag_here", "_law_bulk", "_law_grid_here"] (defScope s_law_wishes) := ⟨rfl, rfl, rfl, by decide +kernel, rfl, by decide +kernel, by decide +kernel⟩
theorem f_law_wishes (F : FunD K "_law_wishes" "_law_wishes" (defArgs s_law_wishes) (defBody s_law_wishes) (defScope s_law_wishes) [] [] f fd) (hm : mg "_law_wishes" = some (.ref f)) (T : Bt mg) (F_law_draw : Fn P w K mg base 1 "_law_draw" (spDraw K)) (F_law_of : Fn P w K mg base 2 "_law_of" (spOf K)) (F_law_bit : Fn P w K mg base 3 "_law_bit" (spBit K)) (F_law_fine : Fn P w K mg base 4 "_law_fine" (spFine K)) (F_law_wish : Fn P w K mg base 5 "_law_wish" (spWish K)) : Fn P w K mg base 6 "_law_wishes" (spWishes K) := by
  refine fn_def F hm c_law_wishes (fun vs H Q E h => ?_) (fun _ _ _ _ _ _ us hl => match us, hl with | [_, _, _], _ => rfl) (fun cdv A outer s H vs Q E hr h => ?_)
  · obtain ⟨b, n, g, rfl, _⟩ := h
    rfl
  · obtain ⟨b, n, g, rfl, hb, n8, g0, g9, k⟩ := h
    have nd := c_law_wishes.nd
    refine ⟨_, (pss_cons (ps_set (i := 3) nd rfl (by first | exact Or.inl rfl | exact Or.inr rfl) (pe_fn F_law_draw (hr.mono (by decide)) (pa_cons (pv 0) (pa_cons (pe_op op_add (pv 1) pe_int) pa_nil))))
      (pss_cons (ps_set (i := 4) nd rfl (by first | exact Or.inl rfl | exact Or.inr rfl) (pe_fn F_law_draw (hr.mono (by decide)) (pa_cons (pv 0) (pa_cons pe_int pa_nil))))
      (pss_cons (ps_set (i := 5) nd rfl (by first | exact Or.inl rfl | exact Or.inr rfl) (pe_fn F_law_bit (hr.mono (by decide)) (pa_cons (pv 0) pa_nil)))
      (pss_cons (ps_set (i := 6) nd rfl (by first | exact Or.inl rfl | exact Or.inr rfl) (pe_lst pa_nil))
      (pss_cons (ps_for PassesOwn.never rfl (pi_range1 rfl T.range (pa_cons (pv 3) pa_nil)) (pg_name (i := 7) nd rfl (by first | exact Or.inl rfl | exact Or.inr rfl))
        (pss_cons (ps_set (i := 8) nd rfl (by first | exact Or.inl rfl | exact Or.inr rfl) (pe_tup (pa_cons (pe_fn F_law_wish (hr.mono (by decide)) (pa_cons (pv 0) (pa_cons (pv 2) pa_nil))) (pa_cons (pe_fn F_law_of (hr.mono (by decide)) (pa_cons (pv 0) (pa_cons (pe_lst (pa_cons pe_int (pa_cons pe_int (pa_cons pe_int (pa_cons pe_int (pa_cons (pe_op op_add pe_int (pe_fn F_law_draw (hr.mono (by decide)) (pa_cons (pv 0) (pa_cons pe_int pa_nil)))) pa_nil)))))) pa_nil))) (pa_cons (pe_fn F_law_of (hr.mono (by decide)) (pa_cons (pv 0) (pa_cons (pe_lst (pa_cons (pe_tup (pa_cons pe_int (pa_cons pe_int pa_nil))) (pa_cons (pe_tup (pa_cons pe_int (pa_cons pe_int pa_nil))) (pa_cons (pe_fn F_law_bit (hr.mono (by decide)) (pa_cons (pv 0) pa_nil)) (pa_cons (pv 5) (pa_cons (pe_fn F_law_fine (hr.mono (by decide)) (pa_cons (pv 0) (pa_cons (pv 2) pa_nil))) pa_nil)))))) pa_nil))) pa_nil)))))
        (pss_mid (ps_if (PW.pt (pw_and (pt_cmpR op_eq (pv 4) pe_int (nomark _)) (pw_and (pt_cmpR (op_neD hr.units) (pv 6) (pe_lst pa_nil) (nomark _)) (pw_and1 (pt_cmpR op_eq (pe_fn F_law_draw (hr.mono (by decide)) (pa_cons (pv 0) (pa_cons pe_int pa_nil))) pe_int (nomark _))))))
          (pss_one (ps_set (i := 8) nd rfl (by first | exact Or.inl rfl | exact Or.inr rfl) (pe_tup (pa_cons (pe_fn F_law_of (hr.mono (by decide)) (pa_cons (pv 0) (pa_cons (pe_lst (pa_cons (pe_ix ix_tup (pe_ix ix_list (pv 6) pe_int (fun _ _ => rfl)) pe_int (fun _ _ => rfl)) (pa_cons (pe_ix ix_tup (pv 8) pe_int (fun _ _ => rfl)) pa_nil))) pa_nil))) (pa_cons (pe_ix ix_tup (pv 8) pe_int (fun _ _ => rfl)) (pa_cons (pe_fn F_law_of (hr.mono (by decide)) (pa_cons (pv 0) (pa_cons (pe_lst (pa_cons (pe_ix ix_tup (pe_ix ix_list (pv 6) pe_int (fun _ _ => rfl)) pe_int (fun _ _ => rfl)) (pa_cons (pe_ix ix_tup (pv 8) pe_int (fun _ _ => rfl)) pa_nil))) pa_nil))) pa_nil))))))
          pss_nil)
        (pss_one (ps_expr (pe_bm PySem.F.plainAttrs_list PySem.F.slot_list_append PySem.F.type_list_append mt_append (pv 6) (pa_cons (pv 8) pa_nil)))))))
      (pss_one (ps_ret (pv 6)))))))), ?_⟩
    show (_ : TS) _ [some _, some _, some _, none, none, none, none, none, none] _
    try dsimp only [cxOf, Cx.nox]
    walk_at "go"
    refine k_draw hb (by omega) (Int.lt_of_le_of_lt (by omega : (n : Int) + 1 ≤ 9) (by decide)) fun x1 H1 l1 u1 b1 n1 => ?_
    walk_at "go"
    refine k_draw b1 (by decide) (by decide) fun x2 H2 l2 u2 b2 n2 => ?_
    walk_at "go"
    refine k_bit b2 fun lv lq H3 al il b3 n3 => ?_
    have il' : In (12 * g) 4096 lq := (il.up (Nat.dvd_mul_right _ _)).most (by decide)
    walk_at "go"
    rename_i c hc
    have e3 := (n1.trans n2).trans n3
    have hc0 : H c = none := e3.freeS hc fun a ha => by rw [List.mem_singleton.mp ha]; obtain ⟨l, q⟩ := b3.lst; rw [q]; exact fun z => nomatch z
    have W0 : WS K H (upd H3 c (.lst [])) b c g [] [] lv lq := ⟨upd_same, Rel.nil, fun r hr => (nomatch hr), b3.new hc, e3.new hc, al.n hc, (b3.ne hc).symm⟩
    refine r_for ?_
    walk_at "go"
    refine ⟨_, rfl, by omega, by omega, ?_⟩
    refine r_loopR (fun j σ H' => ∃ (xs : List V) (rows : List Row) (u7 u8 : Option V), σ = [some (V.ref b.a), some (V.int (n : Int)), some (V.int (g : Int)), some (V.int x1), some (V.int x2), some lv, some (V.ref c), u7, u8] ∧ WS K H H' b c g xs rows lv lq ∧ rows.length = j)
      ⟨[], [], none, none, rfl, W0, rfl⟩ ?_ ?_
    · rintro j σ H4 hj ⟨xs, rows, u7, u8, rfl, W, lr⟩
      walk_at "go"
      refine ⟨b, g, rfl, W.bag, g0, g9, fun mv man H5 hm mo b5 n5 => ?_⟩
      walk_at "go"
      have W5 := W.bx n5 b5
      refine k_draw b5 (by decide) (by decide) fun x3 H6 l3 u3 b6 n6 => ?_
      walk_at "go"
      rename_i p hp
      have W6 := W5.bx n6 b6
      have hm6 := hm.b b5 n6
      refine of_int (ns := [1, 1, 2, 3, 1 + x3]) (b6.new hp) lstS (b6.ne hp) (Nat.zero_lt_succ _) (show 5 ≤ 4000 by decide) fun wt H7 hx b7 n7 => ?_
      have hw : 1 ≤ wt ∧ wt ≤ 12 := by
        simp only [List.mem_cons, List.not_mem_nil, or_false] at hx
        rcases hx with rfl | rfl | rfl | rfl | rfl <;> omega
      have ew : wt = ((wt.toNat : Nat) : Int) := by omega
      have e7 := (Ext.refl.new (S := [b.a]) (o := .lst ([1, 1, 2, 3, 1 + x3].map V.int)) hp).trans n7
      have W7 := W6.bx e7 b7
      have hm7 := hm6.b b6 e7
      walk_at "go"
      rename_i p1 hp1 p2 hp2
      have e8 : Ext [] H7 (upd (upd H7 p1 (.tup [.int 1000, .int 1])) p2 (.tup [.int 1000, .int 1])) := by walk_at "ext"
      have W8 := W7.x0 e8
      have hm8 := hm7.x0 e8
      have b8 := W8.bag
      have t1 : Am K (upd (upd H7 p1 (.tup [.int 1000, .int 1])) p2 (.tup [.int 1000, .int 1])) (.ref p1) 1000 := ⟨p1, rfl, by walk_at "sq"⟩
      have t2 : Am K (upd (upd H7 p1 (.tup [.int 1000, .int 1])) p2 (.tup [.int 1000, .int 1])) (.ref p2) 1000 := ⟨p2, rfl, by walk_at "sq"⟩
      generalize upd (upd H7 p1 (.tup [.int 1000, .int 1])) p2 (.tup [.int 1000, .int 1]) = H8 at *
      refine k_bit b8 fun v4 q4 H9 a4 i4 b9 n9 => ?_
      walk_at "go"
      have W9 := W8.bx n9 b9
      refine ⟨b, g, rfl, b9, g0, g9, fun v5 q5 H10 a5 i5 b10 n10 => ?_⟩
      have W10 := W9.bx n10 b10
      walk_at "go"
      rename_i pl hpl
      have n8_10 := n9.trans n10
      refine of_am (qs := [1000, 1000, q4, lq, q5]) (b10.new hpl) lstS (b10.ne hpl) ?_ (Nat.zero_lt_succ _) (show 5 ≤ 4000 by decide) fun bv bq H11 hq abv b11 n11 => ?_
      · exact Ams.cons ((t1.b b8 n8_10).n hpl) (Ams.cons ((t2.b b8 n8_10).n hpl) (Ams.cons ((a4.b b9 n10).n hpl) (Ams.cons (W10.lid.n hpl) (Ams.cons (a5.n hpl) Ams.nil))))
      have ib : In (12 * g) 4096 bq := by
        simp only [List.mem_cons, List.not_mem_nil, or_false] at hq
        rcases hq with rfl | rfl | rfl | rfl | rfl
        · exact In.nat (n := 1000) (by decide)
        · exact In.nat (n := 1000) (by decide)
        · exact (i4.up (Nat.dvd_mul_right _ _)).most (by decide)
        · exact il'
        · exact i5.most (by decide)
      have e11 := (Ext.refl.new (S := [b.a]) (o := .lst [.ref p1, .ref p2, v4, lv, v5]) hpl).trans n11
      have W11 := W10.bx e11 b11
      have hm11 := (hm8.b b8 n8_10).b b10 e11
      walk_at "go"
      rename_i pr hpr
      have W12 := W11.x0 (Ext.refl.new (o := .tup [mv, .int wt, bv]) hpr)
      have hr12 : RowIs K (upd H11 pr (.tup [mv, .int wt, bv])) (.ref pr) ⟨man, wt.toNat, bq⟩ := ⟨pr, mv, bv, rfl, by rw [← ew]; exact tupS, hm11.x0 (Ext.refl.new hpr), abv.n hpr⟩
      have hg12 : RowG (12 * g) ⟨man, wt.toNat, bq⟩ := rowg_ok mo ib (by show 0 < wt.toNat; omega) (by show wt.toNat ≤ 12; omega)
      generalize upd H11 pr (.tup [mv, .int wt, bv]) = H12 at *
      clear W11 W10 W9 W8 W7 W6 W5 W hm11 hm8 hm7 hm6 hm
      refine r_mid (fun σ' H' => ∃ (v : V) (r : Row), σ' = [some (V.ref b.a), some (V.int (n : Int)), some (V.int (g : Int)), some (V.int x1), some (V.int x2), some lv, some (V.ref c), some (V.int (0 + (j : Int))), some v] ∧ WS K H H' b c g xs rows lv lq ∧ RowIs K H' v r ∧ RowG (12 * g) r) ?_ ?_
      · walk_at "go"
        refine r_dec (fun h1 => ?_) (fun h1 => ?_)
        · walk_at "go"
          rename_i pe hpe
          refine ne_rows (W12.rel.x0 (Ext.refl.new hpe)) (.inl (.inl (W12.x0 (Ext.refl.new hpe)).at_)) lstS ?_
          have W13 := W12.x0 (Ext.refl.new (o := .lst []) hpe)
          have hr13 := hr12.x0 (Ext.refl.new (o := .lst []) hpe)
          generalize upd H12 pe (.lst []) = H13 at *
          walk_at "go"
          cases rows with
          | nil =>
            walk_at "run"
            exact ⟨_, _, rfl, W13, hr13, hg12⟩
          | cons r0 rt =>
            refine r_true rfl ?_
            walk_at "go"
            refine k_draw W13.bag (by decide) (by decide) fun x4 H14 l4 u4 b14 n14 => ?_
            have W14 := W13.bx n14 b14
            have hr14 := hr13.b W13.bag n14
            walk_at "go"
            refine r_dec (fun h2 => ?_) (fun h2 => ?_)
            · have hxs := W14.rel
              obtain ⟨v0, xt, rfl⟩ : ∃ v0 xt, xs = v0 :: xt := by
                cases xs with
                | nil => exact absurd hxs.1 (by simp)
                | cons v0 xt => exact ⟨v0, xt, rfl⟩
              obtain ⟨a0, mv0, bv0, rfl, ht0, hm0, hb0⟩ := hxs.hd
              obtain ⟨ar, mvr, bvr, ear, htr, hmr, hbr⟩ := hr14
              cases ear
              have hg0 := W14.ok r0 List.mem_cons_self
              walk_at "go"
              refine r_ixL (.inl (.inl W14.at_)) at0 ?_
              walk_at "go"
              rename_i pm hpm
              refine of_two (W14.bag.new hpm) lstS (W14.bag.ne hpm) fun m2 H15 hm2 b15 n15 => ?_
              have e15 := (Ext.refl.new (S := [b.a]) (o := .lst [mv0, mvr]) hpm).trans n15
              have W15 := W14.bx e15 b15
              have ht0' := tupB W14.bag e15 ht0
              have htr' := tupB W14.bag e15 htr
              have M15 : ∃ m, ManIs K H15 m2 m ∧ ManOk (12 * g) 4096 m := by
                rcases hm2 with rfl | rfl
                · exact ⟨_, hm0.b W14.bag e15, hg0.man⟩
                · exact ⟨_, hmr.b W14.bag e15, hg12.man⟩
              obtain ⟨m, hm15, mo15⟩ := M15
              have hb0' := hb0.b W14.bag e15
              have hbr' := hbr.b W14.bag e15
              walk_at "go"
              refine r_ixL (.inl (.inl W15.at_)) at0 ?_
              walk_at "go"
              rename_i pb hpb
              refine of_two (W15.bag.new hpb) lstS (W15.bag.ne hpb) fun b2v H16 hb2 b16 n16 => ?_
              have e16 := (Ext.refl.new (S := [b.a]) (o := .lst [bv0, bvr]) hpb).trans n16
              have W16 := W15.bx e16 b16
              have B16 : ∃ q, Am K H16 b2v q ∧ In (12 * g) 4096 q := by
                rcases hb2 with rfl | rfl
                · exact ⟨_, hb0'.b W15.bag e16, hg0.ok.b⟩
                · exact ⟨_, hbr'.b W15.bag e16, ib⟩
              obtain ⟨q, ha16, iq16⟩ := B16
              walk_at "go"
              rename_i pt hpt
              refine ⟨_, ⟨m, wt.toNat, q⟩, rfl, W16.x0 (Ext.refl.new hpt), ⟨pt, m2, b2v, rfl, tupS, (hm15.b W15.bag e16).x0 (Ext.refl.new hpt), ha16.n hpt⟩, rowg_ok mo15 iq16 (by omega) (by omega)⟩
            · walk_at "run"
              exact ⟨_, _, rfl, W14, hr14, hg12⟩
        · walk_at "run"
          exact ⟨_, _, rfl, W12, hr12, hg12⟩
      · rintro σ' H13 ⟨v, r, rfl, W13, hr13, hg13⟩
        walk_at "go"
        refine ⟨ty_lst W13.at_, ?_⟩
        walk_at "go"
        have lx := W13.rel.1
        refine r_app W13.at_ (by omega) ?_
        walk_at "go"
        refine ⟨xs ++ [v], rows ++ [r], _, _, rfl, ⟨upd_same, (W13.rel.w W13.at_).snoc (hr13.w W13.at_), fun r' hr' => ?_, hb.own hc0 W13.bag, W13.ext.own hc0, W13.lid.w W13.at_, W13.nb⟩, by rw [List.length_append, lr]; rfl⟩
        rcases List.mem_append.mp hr' with h | h
        · exact W13.ok r' h
        · rw [List.mem_singleton.mp h]; exact hg13
    · rintro σ H4 ⟨xs, rows, u7, u8, rfl, W, lr⟩
      walk_at "go"
      exact k c xs rows H4 hc0 W.at_ W.rel W.ok (by omega) W.bag W.ext
end
end Yk

set_option maxHeartbeats 8000000
namespace Yk
open PySem PySem.Spec PyProof.Rows L2

/-- rows of a draw, with its grid -/
structure GR (g : Nat) (rows : List Row) : Prop where
  g0 : 0 < g
  g9 : g ≤ 2 ^ 60
  ok : ∀ r ∈ rows, RowG (12 * g) r
  n : rows.length ≤ 8
section
variable {g : Nat} {rows : List Row}
theorem GR.row (h : GR g rows) : ∀ r ∈ rows, RowOk (12 * g) 4096 r := fun r hr => (h.ok r hr).ok
theorem dvE {g : Nat} : 12 * g * 27720 ∣ 665280 * g := ⟨2, by omega⟩
theorem dvE1 {g : Nat} : 12 * g * 27720 ∣ 332640 * g := ⟨1, by omega⟩
theorem dvDE {g : Nat} : 12 * g ∣ 665280 * g := ⟨55440, by omega⟩
theorem dvDE1 {g : Nat} : 12 * g ∣ 332640 * g := ⟨27720, by omega⟩
theorem dvE1E {g : Nat} : 332640 * g * 2 = 665280 * g := by omega
theorem GR.E9 (h : GR g rows) : 665280 * g ≤ 2 ^ 140 := Nat.le_trans (Nat.mul_le_mul_left 665280 h.g9) (by decide)
theorem GR.E19 (h : GR g rows) : 332640 * g ≤ 2 ^ 140 := Nat.le_trans (Nat.mul_le_mul_left 332640 h.g9) (by decide)
theorem GR.tok (h : GR g rows) {X : Nat} {x : Rat} (h0 : 0 < X) (h9 : X ≤ 2 ^ 400) (hd : 12 * g ∣ X) (hx : In X 4096 x) : TotOk X 4096 4096 rows x := ⟨h0, h9, by decide, by decide, fun r hr => (h.row r hr).up hd, hx, h.n⟩
theorem GR.tin (h : GR g rows) {X : Nat} {x : Rat} (hd : 12 * g ∣ X) (hx : In X 4096 x) : In X 32768 (tot rows x) := (tot_in hx fun r hr => (h.row r hr).up hd).most (Nat.mul_le_mul_right 4096 h.n)
theorem GR.lev (h : GR g rows) {goal : Rat} (hg : In (665280 * g) 65536 goal) : LevOk (12 * g) (665280 * g) 4096 65536 rows goal 1000 :=
  ⟨by have := h.g0; omega, h.row, h.n, dvE, by have := h.g0; omega, h.E9, by decide, by decide, hg, In.nat (n := 1000) (by decide)⟩
theorem sz65 {X : Nat} {q : Rat} {M : Nat} (h : In X M q) (h0 : 0 < X) (h9 : X ≤ 2 ^ 400) (hM : M ≤ 2 ^ 20) : Sz 4000 q := (h.sz h0 h9 hM).mono (by decide)
end
section
variable {P : Program} {w : World} {K : PySem.W.Frag} {mg : Str → Option Value} {base : Heap} {f : Addr} {fd : FuncData}
def spSupply (K : PySem.W.Frag) : Sp := fun vs H Q _ => ∃ (b : Bag) (c : Addr) (g : Nat) (xs : List V) (rows : List Row), vs = [.ref b.a, .ref c] ∧ BagAt K H b ∧ H c = some (.lst xs) ∧ c ≠ b.a ∧ RowsIs K H xs rows ∧ GR g rows ∧
  ∀ v q H', Am K H' v q → In (665280 * g) 65536 q → 0 < q → BagAt K H' b → Ext [b.a] H H' → Q v H'
theorem one_frac {d : Nat} (h : 0 < d) : (⟨1, d, by omega, by simp⟩ : Rat) = mkRat ((1 : Nat) : Int) d := by
  exact Rat.mk_eq_mkRat _ _ _ _
theorem le_two : (2 : Nat) ^ 140 ≤ 2 ^ 400 := Nat.pow_le_pow_right (by decide) (by decide)
theorem half_eq (q : Rat) : q * mkRat ((1 : Nat) : Int) 2 = q * (1 / 2) := by rw [Rat.mkRat_eq_div]; norm_cast
abbrev s_law_supply : Stmt := top 52
theorem c_law_supply : FnScope ["_law_bag_here", "_law_rows", "_law_shape", "_law_x", "_law_y", "_law_some"] ["_law_bag_here", "_law_rows"] (defScope s_law_supply) := ⟨rfl, rfl, rfl, by decide +kernel, rfl, by decide +kernel, by decide +kernel⟩
theorem f_law_supply (F : FunD K "_law_supply" "_law_supply" (defArgs s_law_supply) (defBody s_law_supply) (defScope s_law_supply) [] [] f fd) (hm : mg "_law_supply" = some (.ref f)) (F_law_draw : Fn P w K mg base 1 "_law_draw" (spDraw K)) (F_law_of : Fn P w K mg base 2 "_law_of" (spOf K)) (F_law_bit : Fn P w K mg base 3 "_law_bit" (spBit K)) (F_law_fine : Fn P w K mg base 4 "_law_fine" (spFine K)) (F_law_add : Fn P w K mg base 2 "_law_add" (sp2 (fun _ _ => True) (· + ·) K)) (F_law_mul : Fn P w K mg base 2 "_law_mul" (sp2 (fun _ _ => True) (· * ·) K)) (F_law_total : Fn P w K mg base 4 "_law_total" (spLTotal K)) (F_law_breaks : Fn P w K mg base 2 "_law_breaks" (spLBreaks K)) : Fn P w K mg base 5 "_law_supply" (spSupply K) := by
  refine fn_def F hm c_law_supply (fun vs H Q E h => ?_) (fun _ _ _ _ _ _ us hl => match us, hl with | [_, _], _ => rfl) (fun cdv A outer s H vs Q E hr h => ?_)
  · obtain ⟨b, c, g, xs, rows, rfl, _⟩ := h
    rfl
  · obtain ⟨b, c, g, xs, rows, rfl, hb, hc, ncb, hrows, G, k⟩ := h
    have nd := c_law_supply.nd
    refine ⟨_, (pss_cons (ps_set (i := 2) nd rfl (by first | exact Or.inl rfl | exact Or.inr rfl) (pe_fn F_law_draw (hr.mono (by decide)) (pa_cons (pv 0) (pa_cons pe_int pa_nil))))
      (pss_cons (ps_set (i := 3) nd rfl (by first | exact Or.inl rfl | exact Or.inr rfl) (pe_fn F_law_of (hr.mono (by decide)) (pa_cons (pv 0) (pa_cons (pe_fn F_law_breaks (hr.mono (by decide)) (pa_cons (pv 1) pa_nil)) pa_nil))))
      (pss_cons (ps_set (i := 4) nd rfl (by first | exact Or.inl rfl | exact Or.inr rfl) (pe_fn F_law_of (hr.mono (by decide)) (pa_cons (pv 0) (pa_cons (pe_fn F_law_breaks (hr.mono (by decide)) (pa_cons (pv 1) pa_nil)) pa_nil))))
      (pss_mid (ps_set (i := 5) nd rfl (by first | exact Or.inl rfl | exact Or.inr rfl) (pe_lst (pa_cons (pe_fn F_law_add (hr.mono (by decide)) (pa_cons (pe_fn F_law_bit (hr.mono (by decide)) (pa_cons (pv 0) pa_nil)) (pa_cons (pe_tup (pa_cons pe_int (pa_cons pe_int pa_nil))) pa_nil))) (pa_cons (pe_fn F_law_fine (hr.mono (by decide)) (pa_cons (pv 0) (pa_cons pe_int pa_nil))) (pa_cons (pe_fn F_law_total (hr.mono (by decide)) (pa_cons (pv 1) (pa_cons (pv 3) pa_nil))) (pa_cons (pe_fn F_law_total (hr.mono (by decide)) (pa_cons (pv 1) (pa_cons (pv 3) pa_nil))) pa_nil))))))
      (pss_mid (ps_set (i := 5) nd rfl (by first | exact Or.inl rfl | exact Or.inr rfl) (pe_op op_cat (pv 5) (pe_lst (pa_cons (pe_fn F_law_total (hr.mono (by decide)) (pa_cons (pv 1) (pa_cons (pe_fn F_law_mul (hr.mono (by decide)) (pa_cons (pe_fn F_law_add (hr.mono (by decide)) (pa_cons (pv 3) (pa_cons (pv 4) pa_nil))) (pa_cons (pe_tup (pa_cons pe_int (pa_cons pe_int pa_nil))) pa_nil))) pa_nil))) (pa_cons (pe_fn F_law_total (hr.mono (by decide)) (pa_cons (pv 1) (pa_cons (pe_tup (pa_cons pe_int (pa_cons pe_int pa_nil))) pa_nil))) pa_nil)))))
      (pss_mid (ps_set (i := 5) nd rfl (by first | exact Or.inl rfl | exact Or.inr rfl) (pe_op op_cat (pv 5) (pe_lst (pa_cons (pe_fn F_law_total (hr.mono (by decide)) (pa_cons (pv 1) (pa_cons (pe_tup (pa_cons pe_int (pa_cons pe_int pa_nil))) pa_nil))) (pa_cons (pe_fn F_law_add (hr.mono (by decide)) (pa_cons (pe_fn F_law_total (hr.mono (by decide)) (pa_cons (pv 1) (pa_cons (pe_tup (pa_cons pe_int (pa_cons pe_int pa_nil))) pa_nil))) (pa_cons (pe_fn F_law_bit (hr.mono (by decide)) (pa_cons (pv 0) pa_nil)) pa_nil))) pa_nil)))))
      (pss_one (ps_ret (pe_ifExp (pt_cmpR op_gt (pe_ix ix_tup (pe_ix ix_list (pv 5) (pv 2) (fun _ _ => rfl)) pe_int (fun _ _ => rfl)) pe_int (nomark _)) (pe_ix ix_list (pv 5) (pv 2) (fun _ _ => rfl)) (pe_tup (pa_cons pe_int (pa_cons (pe_op op_add pe_int (pe_fn F_law_draw (hr.mono (by decide)) (pa_cons (pv 0) (pa_cons pe_int pa_nil)))) pa_nil)))))))))))), ?_⟩
    show (_ : TS) _ [some _, some _, none, none, none, none] _
    try dsimp only [cxOf, Cx.nox]
    have g0 := G.g0
    have E0 : 0 < 665280 * g := by omega
    have E10 : 0 < 332640 * g := by omega
    have E9 := Nat.le_trans G.E9 le_two
    have E19 := Nat.le_trans G.E19 le_two
    walk_at "go"
    refine k_draw hb (by decide) (by decide) fun x1 H1 l1 u1 b1 n1 => ?_
    walk_at "go"
    have hc1 : H1 c = some (.lst xs) := n1 _ _ hc (by simpa using ncb)
    refine ⟨c, xs, rows, 12 * g, 332640 * g, 4096, rfl, .inl (.inl hc1), hrows.x n1 (bagS hb), G.row, G.n, dvE1, E10, G.E19, by decide, by decide, fun cb zs rs H2 hcb hzs ars B n2 => ?_⟩
    walk_at "go"
    have b2 := b1.x0 n2
    refine of_am b2 (.inl (.inl hzs)) (b1.ne hcb) ars B.z (Nat.le_trans B.n (by decide)) fun vx qx H3 hqx ax b3 n3 => ?_
    walk_at "go"
    have e3 := (n1.trans n2.of0).trans n3
    have hc3 : H3 c = some (.lst xs) := e3 _ _ hc (by simpa using ncb)
    refine ⟨c, xs, rows, 12 * g, 332640 * g, 4096, rfl, .inl (.inl hc3), hrows.x e3 (bagS hb), G.row, G.n, dvE1, E10, G.E19, by decide, by decide, fun cb' zs' rs' H4 hcb' hzs' ars' B' n4 => ?_⟩
    walk_at "go"
    have b4 := b3.x0 n4
    refine of_am b4 (.inl (.inl hzs')) (b3.ne hcb') ars' B'.z (Nat.le_trans B'.n (by decide)) fun vy qy H5 hqy ay b5 n5 => ?_
    have ix := (B.inn qx hqx).1
    have iy := (B'.inn qy hqy).1
    have e5 := (e3.trans n4.of0).trans n5
    have ax5 := (ax.x0 n4).b b4 n5
    have ixE := ix.up (D' := 665280 * g) ⟨2, by omega⟩
    have iyE := iy.up (D' := 665280 * g) ⟨2, by omega⟩
    have tt : ∀ {H' : Hp} {v : V} {q : Rat} {R : VK}, Ext [b.a] H H' → Am K H' v q → In (665280 * g) 4096 q → (∀ v' H'', Ext [] H' H'' → Am K H'' v' (tot rows q) → R v' H'') → spLTotal K [.ref c, v] H' R L2.E0 := fun e a i kk =>
      ⟨c, xs, rows, _, _, 665280 * g, 4096, 4096, rfl, .inl (.inl (e _ _ hc (by simpa using ncb))), hrows.x e (bagS hb), a, G.tok E0 E9 dvDE i, kk⟩
    have hm : c = c := rfl
    walk_at "go"
    refine r_mid (fun σ' H' => ∃ (d : Addr) (ys : List V) (qs : List Rat), σ' = [some (V.ref b.a), some (V.ref c), some (V.int x1), some vx, some vy, some (V.ref d)] ∧ H' d = some (.lst ys) ∧ d ≠ b.a ∧ ys.length = 4 ∧ Ams K H' ys qs ∧ (∀ q ∈ qs, In (665280 * g) 65536 q) ∧ BagAt K H' b ∧ Ext [b.a] H5 H') ?_ ?_
    · walk_at "go"
      refine k_bit b5 fun v1 q1 H6 a1 i1 b6 n6 => ?_
      walk_at "go"
      have i1E : In (665280 * g) 12 q1 := i1.up ⟨55440 * g, by omega⟩
      have i12 : In (665280 * g) 1 (mkRat ((1 : Nat) : Int) 12) := In.frac (by decide) ⟨55440 * g, by omega⟩ (by decide)
      refine k_two (a1.n (by assumption)) (q := mkRat ((1 : Nat) : Int) 12) ⟨_, rfl, tupS⟩ (sz65 i1E E0 E9 (by decide)) (sz65 i12 E0 E9 (by decide)) i1.nn i12.nn trivial fun v2 H7 n7 a2 => ?_
      walk_at "go"
      have e67 := (Ext.refl.new (S := []) (by assumption)).trans n7
      have b7 := b6.x0 e67
      refine ⟨b, 12, rfl, b7, by decide, by decide, fun v3 q3 H8 a3 i3 b8 n8 => ?_⟩
      walk_at "go"
      have e8 := ((e5.trans n6).trans e67.of0).trans n8
      have m8 := (n6.trans e67.of0).trans n8
      refine tt e8 (ax5.b b5 m8) ixE fun v4 H9 n9 a4 => ?_
      walk_at "go"
      refine tt (e8.trans n9.of0) ((ax5.b b5 m8).x0 n9) ixE fun v5 H10 n10 a5 => ?_
      walk_at "go"
      have e10 := n9.trans n10
      have i3E : In (665280 * g) 2001 q3 := i3.up ⟨4620 * g, by omega⟩
      have iT := G.tin dvDE ixE
      refine ⟨_, _, [q1 + mkRat ((1 : Nat) : Int) 12, q3, tot rows qx, tot rows qx], rfl, upd_same, ((b8.x0 e10).ne (by assumption)).symm, rfl, ?_, ?_, (b8.x0 e10).new (by assumption), (m8.trans e10.of0).new (by assumption)⟩
      · exact Ams.x0 (Ext.refl.new (by assumption)) (Ams.cons ((a2.b b7 n8).x0 e10) (Ams.cons (a3.x0 e10) (Ams.cons (a4.x0 n10) (Ams.cons a5 Ams.nil))))
      · intro q hq
        simp only [List.mem_cons, List.not_mem_nil, or_false] at hq
        rcases hq with rfl | rfl | rfl | rfl
        · exact (i1E.add i12).most (by decide)
        · exact i3E.most (by decide)
        · exact iT.most (by decide)
        · exact iT.most (by decide)
    · rintro σ' H6 ⟨d, ys, qs, rfl, hd, nd_, ly, hys, iqs, b6, n6⟩
      have e6 := e5.trans n6
      have ax6 := ax5.b b5 n6
      have ay6 := ay.b b5 n6
      refine r_mid (fun σ' H' => ∃ (d : Addr) (ys : List V) (qs : List Rat), σ' = [some (V.ref b.a), some (V.ref c), some (V.int x1), some vx, some vy, some (V.ref d)] ∧ H' d = some (.lst ys) ∧ d ≠ b.a ∧ ys.length = 6 ∧ Ams K H' ys qs ∧ (∀ q ∈ qs, In (665280 * g) 65536 q) ∧ BagAt K H' b ∧ Ext [b.a] H6 H') ?_ ?_
      · walk_at "go"
        refine k_two ax6 ay6 (sz65 ix E10 E19 (by decide)) (sz65 iy E10 E19 (by decide)) ix.nn iy.nn trivial fun v1 H7 n7 a1 => ?_
        walk_at "go"
        have i1 := ix.add iy
        have i12 : In 2 1 (mkRat ((1 : Nat) : Int) 2) := In.frac (by decide) ⟨1, by omega⟩ (by decide)
        refine k_two (a1.n (by assumption)) (q := mkRat ((1 : Nat) : Int) 2) ⟨_, rfl, tupS⟩ (sz65 i1 E10 E19 (by decide)) ⟨by decide, by decide⟩ i1.nn i12.nn trivial fun v2 H8 n8 a2 => ?_
        have ih : In (665280 * g) 4096 ((qx + qy) * mkRat ((1 : Nat) : Int) 2) := by
          have h := i1.half
          rw [dvE1E] at h
          rw [half_eq]
          exact h.of_le (by have := ix.le; have := iy.le; grind)
        have e8 := (n7.new (by assumption)).trans n8
        walk_at "go"
        refine tt (e6.trans e8.of0) a2 ih fun v3 H9 n9 a3 => ?_
        walk_at "go"
        refine tt ((e6.trans e8.of0).trans (n9.new (by assumption)).of0) ⟨_, rfl, tupS⟩ In.zero fun v4 H10 n10 a4 => ?_
        walk_at "go"
        rename_i pl hpl
        have m910 := (Ext.refl.new (S := []) (by assumption)).trans n10
        have m10 := n9.trans m910
        have e10 := e8.trans m10
        have hd10 : H10 d = some (.lst ys) := e10 _ _ hd fun z => nomatch z
        refine ⟨d, pl, ys, [v3, v4], rfl, rfl, by rw [upd_ne (ne_of_none hd10 hpl)]; exact hd10, upd_same, by rw [ly]; exact (by decide : 4 + 2 ≤ sizeLine), fun p hp => ?_⟩
        walk_at "go"
        have e12 := (Ext.refl.new (S := []) (o := .lst [v3, v4]) hpl).new (o := .lst (ys ++ [v3, v4])) hp
        refine ⟨p, _, qs ++ [tot rows ((qx + qy) * mkRat ((1 : Nat) : Int) 2), tot rows 0], rfl, upd_same, (((b6.x0 e10).new hpl).ne hp).symm, by rw [List.length_append, ly]; rfl, ?_, ?_, ((b6.x0 e10).x0 e12), (e10.trans e12).of0⟩
        · exact ((hys.x0 e10).x0 e12).app (Ams.cons ((a3.x0 m910).x0 e12) (Ams.cons (a4.x0 e12) Ams.nil))
        · intro q hq
          rcases List.mem_append.mp hq with hq | hq
          · exact iqs q hq
          · simp only [List.mem_cons, List.not_mem_nil, or_false] at hq
            rcases hq with rfl | rfl
            · exact (G.tin dvDE ih).most (by decide)
            · exact (G.tin dvDE In.zero).most (by decide)
      · clear ly hys iqs hd nd_
        rintro σ' H7 ⟨d, ys, qs, rfl, hd, nd_, ly, hys, iqs, b7, n7⟩
        have e7 := e6.trans n7
        refine r_mid (fun σ' H' => ∃ (d : Addr) (ys : List V) (qs : List Rat), σ' = [some (V.ref b.a), some (V.ref c), some (V.int x1), some vx, some vy, some (V.ref d)] ∧ H' d = some (.lst ys) ∧ d ≠ b.a ∧ ys.length = 8 ∧ Ams K H' ys qs ∧ (∀ q ∈ qs, In (665280 * g) 65536 q) ∧ BagAt K H' b ∧ Ext [b.a] H7 H') ?_ ?_
        · walk_at "go"
          have it : In (665280 * g) 4096 1000 := In.nat (n := 1000) (by decide)
          have iT := G.tin dvDE it
          refine tt (e7.new (by assumption)) ⟨_, rfl, tupS⟩ it fun v1 H8 n8 a1 => ?_
          walk_at "go"
          have m8 := (Ext.refl.new (S := []) (by assumption)).trans n8
          refine tt ((e7.trans m8.of0).new (by assumption)) ⟨_, rfl, tupS⟩ it fun v2 H9 n9 a2 => ?_
          walk_at "go"
          have m9 := (Ext.refl.new (S := []) (by assumption)).trans n9
          have b9 := (b7.x0 m8).x0 m9
          refine k_bit b9 fun v3 q3 H10 a3 i3 b10 n10 => ?_
          walk_at "go"
          have i3E : In (665280 * g) 12 q3 := i3.up ⟨55440 * g, by omega⟩
          refine k_two (a2.b b9 n10) a3 (sz65 iT E0 E9 (by decide)) (sz65 i3E E0 E9 (by decide)) iT.nn i3.nn trivial fun v4 H11 n11 a4 => ?_
          walk_at "go"
          rename_i pl hpl
          have e11 : Ext [b.a] H7 H11 := ((m8.trans m9).of0.trans n10).trans n11.of0
          have hd11 : H11 d = some (.lst ys) := e11 _ _ hd (by simpa using nd_)
          have b11 := b10.x0 n11
          refine ⟨d, pl, ys, [v1, v4], rfl, rfl, by rw [upd_ne (ne_of_none hd11 hpl)]; exact hd11, upd_same, by rw [ly]; exact (by decide : 6 + 2 ≤ sizeLine), fun p hp => ?_⟩
          walk_at "go"
          have e12 := (Ext.refl.new (S := []) (o := .lst [v1, v4]) hpl).new (o := .lst (ys ++ [v1, v4])) hp
          refine ⟨p, _, qs ++ [tot rows 1000, tot rows 1000 + q3], rfl, upd_same, ((b11.new hpl).ne hp).symm, by rw [List.length_append, ly]; rfl, ?_, ?_, b11.x0 e12, e11.trans e12.of0⟩
          · exact ((hys.b b7 e11).x0 e12).app (Ams.cons ((((a1.x0 m9).b b9 n10).x0 n11).x0 e12) (Ams.cons (a4.x0 e12) Ams.nil))
          · intro q hq
            rcases List.mem_append.mp hq with hq | hq
            · exact iqs q hq
            · simp only [List.mem_cons, List.not_mem_nil, or_false] at hq
              rcases hq with rfl | rfl
              · exact iT.most (by decide)
              · exact (iT.add i3E).most (by decide)
        · clear ly hys iqs hd nd_
          rintro σ' H8 ⟨d, ys, qs, rfl, hd, nd_, ly, hys, iqs, b8, n8⟩
          have e8 := e7.trans n8
          have hx := List.getElem?_eq_getElem (show x1.toNat < ys.length by omega)
          generalize ys[x1.toNat]'(by omega) = v at hx
          obtain ⟨q, hq, ⟨av, rfl, hat⟩⟩ := hys.at_ hx
          have iq := iqs q (List.mem_of_getElem? hq)
          walk_at "go"
          refine r_ixL (.inl (.inl hd)) (at_n (n := x1.toNat) (by omega) hx) ?_
          walk_at "go"
          refine r_dec (fun hpos => ?_) (fun hpos => ?_)
          · walk_at "go"
            refine r_ixL (.inl (.inl hd)) (at_n (n := x1.toNat) (by omega) hx) ?_
            exact k _ q H8 ⟨av, rfl, hat⟩ iq ((num_pos_iff iq.nn).mp hpos) b8 e8
          · walk_at "go"
            refine k_draw b8 (by decide) (by decide) fun x2 H9 l2 u2 b9 n9 => ?_
            walk_at "go"
            have ed : 1 + x2 = (((1 + x2).toNat : Nat) : Int) := by omega
            have d0 : 0 < (1 + x2).toNat := by omega
            have d12 : (1 + x2).toNat ≤ 12 := by omega
            generalize (1 + x2).toNat = d at ed d0 d12
            have dd : d ∣ 665280 * g := by
              have h27 : d ∣ 27720 := by
                have : d = 1 ∨ d = 2 ∨ d = 3 ∨ d = 4 ∨ d = 5 ∨ d = 6 ∨ d = 7 ∨ d = 8 ∨ d = 9 ∨ d = 10 ∨ d = 11 ∨ d = 12 := by omega
                rcases this with rfl | rfl | rfl | rfl | rfl | rfl | rfl | rfl | rfl | rfl | rfl | rfl <;> decide
              exact Nat.dvd_trans h27 ⟨24 * g, by omega⟩
            refine k _ (mkRat ((1 : Nat) : Int) d) _ ?_ ((In.frac (M := 1) d0 dd (by omega)).most (by decide)) ?_ (b9.new (by assumption)) ((e8.trans n9).new (by assumption))
            · rw [← one_frac d0]
              refine ⟨_, rfl, ?_⟩
              rw [ed]
              exact tupS
            · rw [← one_frac d0]
              exact (Rat.lt_iff 0 _).mpr (by simp)
end
end Yk

set_option maxHeartbeats 8000000
namespace Yk
open PySem PySem.Spec PyProof.Rows L2

section
variable {P : Program} {w : World} {K : PySem.W.Frag} {mg : Str → Option Value} {base : Heap} {f : Addr} {fd : FuncData}
/-- a level with its size -/
structure LevAt (E : Nat) (rows : List Row) (goal y : Rat) (X : Nat) : Prop where
  lev : IsLev (tot rows) 1000 goal y
  X0 : 0 < X
  dv : E ∣ X
  X9 : X ≤ 2 ^ 310
  inn : In X 4096 y
theorem x220 {X : Nat} (h : X ≤ 2 ^ 310) : X ≤ 2 ^ 400 := Nat.le_trans h (Nat.pow_le_pow_right (by decide) (by decide))
def spLevelSo (K : PySem.W.Frag) : Sp := fun vs H Q _ => ∃ (s d : V) (c : Addr) (g X : Nat) (xs : List V) (rows : List Row) (goal y : Rat), vs = [s, .ref c, d] ∧ Am K H s goal ∧ SqL K H c xs ∧ RowsIs K H xs rows ∧ Am K H d y ∧ GR g rows ∧ In (665280 * g) 65536 goal ∧ LevAt (665280 * g) rows goal y X ∧
  ∀ H', Ext [] H H' → Q (.bl true) H'
end
end Yk

set_option maxHeartbeats 8000000
namespace Yk
open PySem PySem.Spec PyProof.Rows L2

theorem permG {α : Type} (xs : List α) (z : α) (k : Nat) : (xs.take k ++ [z] ++ xs.drop k).Perm (z :: xs) := by
  have h : (xs.take k ++ z :: xs.drop k).Perm (z :: (xs.take k ++ xs.drop k)) := List.perm_middle
  rw [List.take_append_drop] at h
  rw [List.append_assoc]
  exact h
section
variable {K : PySem.W.Frag} {H : Hp}
theorem man_eqd {v w : V} {m : Option (Rat × Rat)} (h : ManIs K H v m) (g : ManIs K H w m) : Eqd K H 2 v w := by
  cases m with
  | none =>
    obtain ⟨a, rfl, h⟩ := h
    obtain ⟨b, rfl, g⟩ := g
    exact .tup h g rfl (by simp) fun i x y hx _ => by simp at hx
  | some p =>
    obtain ⟨a, v1, v2, rfl, h, a1, a2⟩ := h
    obtain ⟨b, w1, w2, rfl, g, b1, b2⟩ := g
    refine .tup h g rfl (show 2 ≤ 4000 by decide) fun i x y hx hy => ?_
    match i, hx, hy with
    | 0, hx, hy => cases hx; cases hy; exact a1.eqd 0 b1
    | 1, hx, hy => cases hx; cases hy; exact a2.eqd 0 b2
    | i + 2, hx, _ => cases hx
theorem row_eqd {v w : V} {r : Row} (h : RowIs K H v r) (g : RowIs K H w r) : Eqd K H 3 v w := by
  obtain ⟨a, mv, bv, rfl, h, h1, h2⟩ := h
  obtain ⟨b, mw, bw, rfl, g, g1, g2⟩ := g
  refine .tup h g rfl (show 3 ≤ 4000 by decide) fun i x y hx hy => ?_
  match i, hx, hy with
  | 0, hx, hy => cases hx; cases hy; exact man_eqd h1 g1
  | 1, hx, hy => cases hx; cases hy; exact .int _ _
  | 2, hx, hy => cases hx; cases hy; exact h2.eqd 1 g2
  | i + 3, hx, _ => cases hx
theorem rows_eqd {a b : Addr} {xs ys : List V} {rows : List Row} (h1 : SqL K H a xs) (h2 : SqL K H b ys) (h : RowsIs K H xs rows) (g : RowsIs K H ys rows) (n : rows.length ≤ 4000) : Eqd K H 4 (.ref a) (.ref b) :=
  .lst h1 h2 (h.1.trans g.1.symm) (by rw [h.1]; exact n) fun i x y hx hy => by
    obtain ⟨r, hr, e⟩ := h.at_ hx
    exact row_eqd e (g.2 i y r hy hr)
end
section
variable {P : Program} {w : World} {K : PySem.W.Frag} {mg : Str → Option Value} {base : Heap} {f : Addr} {fd : FuncData}
theorem k_level {H : Hp} {Q : VK} {E : XK} {v : V} {a : Addr} {g : Nat} {xs : List V} {rows : List Row} {goal : Rat} (ha : SqQ K H a xs) (hr : RowsIs K H xs rows) (hv : Am K H v goal) (G : GR g rows) (ig : In (665280 * g) 65536 goal)
    (k : ∀ v y X H', LevAt (665280 * g) rows goal y X → Ext [] H H' → Am K H' v y → Q v H') : spLevel K [v, .ref a] H Q E :=
  ⟨v, a, xs, rows, _, _, _, _, goal, rfl, ha, hr, hv, G.lev ig, fun v y X H' l x0 x1 x2 x3 e av => k v y X H' ⟨l, x0, x1, x2, x3⟩ e av⟩
theorem k_llevel {H : Hp} {Q : VK} {E : XK} {v : V} {a : Addr} {g : Nat} {xs : List V} {rows : List Row} {goal : Rat} (ha : SqL K H a xs) (hr : RowsIs K H xs rows) (hv : Am K H v goal) (G : GR g rows) (ig : In (665280 * g) 65536 goal)
    (k : ∀ v y X H', LevAt (665280 * g) rows goal y X → Ext [] H H' → Am K H' v y → Q v H') : spLLevel K [v, .ref a] H Q E :=
  ⟨v, a, xs, rows, _, _, _, _, goal, rfl, ha, hr, hv, G.lev ig, fun v y X H' l x0 x1 x2 x3 e av => k v y X H' ⟨l, x0, x1, x2, x3⟩ e av⟩
theorem k_mixed {H : Hp} {Q : VK} {E : XK} {b : Bag} {c : Addr} {xs : List V} (hb : BagAt K H b) (hc : H c = some (.lst xs)) (n : c ≠ b.a) (h4 : xs.length ≤ 4000) (k : ∀ p ys H', ys.Perm xs → H p = none → H' p = some (.lst ys) → BagAt K H' b → Ext [b.a] H H' → Q (.ref p) H') : spMixed K [.ref b.a, .ref c] H Q E :=
  ⟨b, c, xs, rfl, hb, .inl (.inl hc), n.symm, h4, k⟩
theorem GR.perm {g : Nat} {rows rows' : List Row} (G : GR g rows) (p : rows'.Perm rows) : GR g rows' := ⟨G.g0, G.g9, fun r hr => G.ok r (p.subset hr), by rw [p.length_eq]; exact G.n⟩
theorem LevAt.same {E E' X X' : Nat} {rows rows' : List Row} {goal y z : Rat} (h : LevAt E rows goal y X) (g : LevAt E' rows' goal z X') (e : tot rows' = tot rows) : z = y := by
  have := g.lev
  rw [e] at this
  exact this.uniq h.lev
theorem RowsIs.b {H H1 : Hp} {b : Bag} {xs : List V} {rows : List Row} (hb : BagAt K H b) (e : Ext [b.a] H H1) (h : RowsIs K H xs rows) : RowsIs K H1 xs rows := h.x e (bagS hb)
end
end Yk

set_option maxHeartbeats 8000000
namespace Yk
open PySem PySem.Spec PyProof.Rows L2

theorem Row.lip (r : Row) {x y : Rat} (h : x ≤ y) : r.at_ y - r.at_ x ≤ (r.w : Rat) * (y - x) := by
  obtain ⟨man, w, b⟩ := r
  have w0 : (0 : Rat) ≤ (w : Rat) := natQ (Nat.zero_le w)
  cases man with
  | none =>
    have := mul_nn w0 (show 0 ≤ y - x by grind)
    show (0 : Rat) - 0 ≤ (w : Rat) * (y - x)
    grind
  | some p =>
    obtain ⟨l, m⟩ := p
    show lmax l (lmin m ((w : Rat) * lmin y b)) - lmax l (lmin m ((w : Rat) * lmin x b)) ≤ (w : Rat) * (y - x)
    have h1 : lmin y b - lmin x b ≤ y - x := by unfold lmin; grind
    have h2 := lmin_mono (r := b) h
    have h3 : (w : Rat) * (lmin y b - lmin x b) ≤ (w : Rat) * (y - x) := Rat.mul_le_mul_of_nonneg_left h1 w0
    have h4 : (w : Rat) * lmin x b ≤ (w : Rat) * lmin y b := wmono h2
    generalize lmin y b = Y at *
    generalize lmin x b = X at *
    have h5 : (w : Rat) * (Y - X) = (w : Rat) * Y - (w : Rat) * X := by grind
    generalize (w : Rat) * Y = B at *
    generalize (w : Rat) * X = A at *
    have h6 : lmax l (lmin m B) - lmax l (lmin m A) ≤ B - A := by unfold lmax lmin; grind
    grind
theorem tot_lip (rows : List Row) : ∃ W : Rat, 0 ≤ W ∧ ∀ x y, x ≤ y → tot rows y - tot rows x ≤ W * (y - x) := by
  induction rows with
  | nil => exact ⟨0, Rat.le_refl, fun x y h => by show (0 : Rat) - 0 ≤ _; grind⟩
  | cons r t ih =>
    obtain ⟨W, W0, hW⟩ := ih
    refine ⟨(r.w : Rat) + W, by have := natQ (Nat.zero_le r.w); grind, fun x y h => ?_⟩
    rw [tot_cons, tot_cons]
    have h1 := r.lip h
    have h2 := hW x y h
    grind
theorem lev_goal {rows : List Row} {top goal y : Rat} (L : IsLev (tot rows) top goal y) (h : 0 < y) : tot rows y ≤ goal := by
  obtain ⟨W, W0, hW⟩ := tot_lip rows
  refine Rat.not_lt.mp fun hg => ?_
  obtain ⟨e, he⟩ : ∃ e, e = (tot rows y - goal) / (W + 1) := ⟨_, rfl⟩
  have he2 : e * (W + 1) = tot rows y - goal := by rw [he]; grind
  have e0 : 0 < e := by
    refine Rat.not_le.mp fun z => ?_
    have := mul_nn (show 0 ≤ -e by grind) (show 0 ≤ W + 1 by grind)
    grind
  obtain ⟨d, hd⟩ : ∃ d, d = lmin y e := ⟨_, rfl⟩
  have d0 : 0 < d := by rw [hd]; unfold lmin; grind
  have d1 : d ≤ e := by rw [hd]; exact lmin_le2 _ _
  have d2 : d ≤ y := by rw [hd]; exact lmin_le1 _ _
  have h1 := L.lo (y - d) (by grind) (by grind)
  have h2 := hW (y - d) y (by grind)
  have h3 : W * (y - (y - d)) ≤ W * e := Rat.mul_le_mul_of_nonneg_left (by grind) W0
  grind
/-- the least wishes -/
def leasts (rows : List Row) : List Rat := rows.filterMap fun r => r.man.map (·.1)
theorem at_zero {D M : Nat} {r : Row} (h : RowOk D M r) : r.at_ 0 = (match r.man with | none => 0 | some p => p.1) := by
  obtain ⟨man, w, b⟩ := r
  have hb := h.b.nn
  have hm := h.m
  cases man with
  | none => rfl
  | some p =>
    obtain ⟨l, m⟩ := p
    obtain ⟨h1, h2⟩ := hm l m rfl
    have := h1.nn
    have := h2.nn
    show lmax l (lmin m ((w : Rat) * lmin 0 b)) = l
    have : lmin 0 b = 0 := by unfold lmin; grind
    rw [this, Rat.mul_zero]
    unfold lmax lmin
    grind
theorem tot_zero {D M : Nat} : ∀ {rows : List Row}, (∀ r ∈ rows, RowOk D M r) → tot rows 0 = sumQ (leasts rows)
  | [], _ => rfl
  | r :: t, h => by
    have h1 := at_zero (h r List.mem_cons_self)
    have h2 := tot_zero (rows := t) fun r hr => h r (List.mem_cons_of_mem _ hr)
    rw [tot_cons, h1, h2]
    unfold leasts
    cases e : r.man with
    | none => rw [List.filterMap_cons, e]; simp [Rat.zero_add]
    | some p => rw [List.filterMap_cons, e]; simp [sumQ_cons]
theorem at_between {D M : Nat} {r : Row} (h : RowOk D M r) {l u : Rat} (hm : r.man = some (l, u)) (lu : l ≤ u) (x : Rat) : l ≤ r.at_ x ∧ r.at_ x ≤ u := by
  unfold Row.at_ shq
  rw [hm]
  dsimp only
  unfold lmax lmin
  grind
theorem in_any {m : Nat} {q : Rat} (h : 0 ≤ q) (z : Sz m q) : In q.den (2 ^ m) q := by
  have e2 : (q.num : Rat) / (q.den : Rat) = q := by rw [← Rat.mkRat_eq_div]; exact Rat.mkRat_self q
  have d0 := natP q.den_pos
  have d1 : (1 : Rat) ≤ (q.den : Rat) := by exact_mod_cast q.den_pos
  have e3 : q * (q.den : Rat) = (q.num : Rat) := by grind
  refine ⟨h, ?_, q.num, e3⟩
  have hn := num_nn h
  have h1 : q.num ≤ ((2 ^ m : Nat) : Int) := by have := z.1; omega
  have h2 : (q.num : Rat) ≤ ((2 ^ m : Nat) : Rat) := by exact_mod_cast h1
  have h3 : q * 1 ≤ q * (q.den : Rat) := Rat.mul_le_mul_of_nonneg_left d1 h
  grind

section
variable {nx : L2.St → Hp → Prop} {rt : VK} {σ : L2.St} {H : Hp} {K : PySem.W.Frag} {g : TG} {t : TS}
theorem r_loopZ {a b : Addr} {xs ys : List V} (hl : xs.length = ys.length) (Pv : Nat → L2.St → Hp → Prop) (h0 : Pv 0 σ H) (hq : ∀ i σ H, Pv i σ H → SqL K H a xs ∧ SqL K H b ys)
    (hs : ∀ (i : Nat) (x y : V) (T : Addr) σ (H : Hp), xs[i]? = some x → ys[i]? = some y → Pv i σ H → H T = none → g (.ref T) σ (upd H T (.tup [x, y])) fun σ2 H2 => t ⟨Pv (i + 1), rt, nx, Pv (i + 1)⟩ σ2 H2) (hd : ∀ σ H, Pv xs.length σ H → nx σ H) :
    ∃ W : Nat → Nat → L2.St → Hp → Prop, (∃ m, W 0 m σ H) ∧ ∀ i m σ H, W i m σ H →
      ((Itz K a b).stop i H ∧ nx σ H) ∨ ((Itz K a b).go i H ∧ ∃ N : L2.St → Hp → Prop, (∀ σ' H', N σ' H' → ∃ m', m' < m ∧ W (i + 1) m' σ' H') ∧ ∀ x H', (Itz K a b).yld i H x H' → g x σ H' fun σ2 H2 => t ⟨N, rt, nx, N⟩ σ2 H2) := by
  refine ⟨fun i m σ H => m = xs.length - i ∧ i ≤ xs.length ∧ Pv i σ H, ⟨xs.length, rfl, Nat.zero_le _, h0⟩, ?_⟩
  rintro i m σ H ⟨rfl, hi, p⟩
  obtain ⟨qx, qy⟩ := hq i σ H p
  by_cases hlt : i < xs.length
  · have hx : xs[i]? = some xs[i] := List.getElem?_eq_getElem hlt
    have hlt2 : i < ys.length := by omega
    have hy : ys[i]? = some ys[i] := List.getElem?_eq_getElem hlt2
    refine .inr ⟨⟨xs, ys, _, _, qx, qy, hx, hy⟩, Pv (i + 1), fun σ' H' p' => ⟨xs.length - (i + 1), by omega, rfl, hlt, p'⟩, fun v H' y => ?_⟩
    obtain ⟨T, x', y', rfl, hT, rfl, f1, f2⟩ := y
    exact hs i x' y' T σ _ (f1 xs qx) (f2 ys qy) p hT
  · have e : i = xs.length := by omega
    subst e
    exact .inl ⟨⟨xs, ys, qx, qy, .inl (Nat.le_refl _)⟩, hd σ H p⟩
end
section
variable {P : Program} {w : World} {K : PySem.W.Frag} {mg : Str → Option Value} {base : Heap} {f : Addr} {fd : FuncData}
def RetAll (K : PySem.W.Frag) (H : Hp) (Q : VK) (qs : List Rat) : Prop := ∀ (c : Addr) (zs : List V) H', H c = none → H' c = some (.lst zs) → Ams K H' zs qs → Ext [] H H' → Q (.ref c) H'
def spAllot (K : PySem.W.Frag) : Sp := fun vs H Q _ => ∃ (a : Addr) (xs : List V) (rows : List Row) (v : V) (x : Rat) (X M N : Nat), vs = [v, .ref a] ∧ SqQ K H a xs ∧ RowsIs K H xs rows ∧ Am K H v x ∧ TotOk X M N rows x ∧ RetAll K H Q (rows.map fun r => r.at_ x)
abbrev s_allotments : Stmt := top 22
theorem c_allotments : FnScope ["level", "wishes", "manner", "weight", "bound"] ["level", "wishes"] (defScope s_allotments) := ⟨rfl, rfl, rfl, by decide +kernel, rfl, by decide +kernel, by decide +kernel⟩
theorem f_allotments (F : FunD K "allotments" "allotments" (defArgs s_allotments) (defBody s_allotments) (defScope s_allotments) [] [] f fd) (hm : mg "allotments" = some (.ref f)) (Fshare : Fn P w K mg base 3 "share" (spShare K)) (Fsmallest : Fn P w K mg base 2 "smallest" (spMin minQ K)) : FnOk P w K mg base CX0 4 f fd ["level", "wishes"] (spAllot K) := by
  refine ok_def F c_allotments (fun vs H Q E h => ?_) (fun cdv A outer s H vs Q E hr h => ?_)
  · obtain ⟨a, xs, rows, v, x, X, M, N, rfl, _⟩ := h
    rfl
  · obtain ⟨a, xs, rows, v, x, X, M, N, rfl, ha, hrows, hx, T, k⟩ := h
    have nd := c_allotments.nd
    refine ⟨_, (pss_one (ps_ret (pe_lc (own := [("manner", 2), ("weight", 3), ("bound", 4)])  rfl nd (pi_seq (pv 1)) (blkOk_by (N := ["level", "wishes", "manner", "weight", "bound"]) (sc := defScope s_allotments) (by decide +kernel)) (fun _ _ _ _ _ => (pg_tup (n := 3) rfl (pgs_cons (pg_name (i := 2) nd rfl (Or.inl rfl)) (pgs_cons (pg_name (i := 3) nd rfl (Or.inl rfl)) (pgs_cons (pg_name (i := 4) nd rfl (Or.inl rfl)) pgs_nil))) : PG _ _ (gTup K 3 _))) (fun _ _ _ _ _ => pts_nil) (fun _ _ _ _ _ => (pe_fn Fshare (hr.mono (by decide)) (pa_cons (pv 2) (pa_cons (pv 3) (pa_cons (pe_fn Fsmallest (hr.mono (by decide)) (pa_cons (pv 0) (pa_cons (pv 4) pa_nil))) pa_nil)))))))), ?_⟩
    show (_ : TS) _ [some _, some _, none, none, none] _
    try dsimp only [cxOf, Cx.nox]
    walk_at "go"
    have zr : ∀ r ∈ rows, ManSz 421 r.man ∧ Sz 421 r.b := fun r hr => rowSz (T.row r hr) T.X0 T.X9 T.M9
    have zx : Sz 521 x := T.x.sz T.X0 T.X9 T.N9
    refine r_lcQ rfl ha (kp0 Ext.refl) fun D hD => ⟨fun i H1 => ∃ acc : List V, H1 D = some (.lst acc) ∧ Ams K H1 acc ((rows.take i).map fun r => r.at_ x) ∧ Ext [] H H1, ?_, ?_, ?_, ?_⟩
    · exact ⟨[], upd_same, Ams.nil, Ext.refl.new hD⟩
    · rintro j H2 ⟨acc, _, _, e⟩
      exact kp0 e
    · rintro j y H1 hy ⟨acc, hacc, hams, e1⟩
      obtain ⟨r, hr, hrow⟩ := hrows.at_ hy
      have hrm := List.mem_of_getElem? hr
      obtain ⟨at_, mv, bv, rfl, ht, hm, hb⟩ := hrow.x0 e1
      walk_at "go"
      refine ⟨rfl, ?_⟩
      walk_at "go"
      refine k_min2 (hx.x0 e1) hb (zx.mono (by decide)) ((zr r hrm).2.mono (by decide)) fun v1 H2 n2 a2 => ?_
      walk_at "go"
      have zm : Sz 2000 (lmin x r.b) := (sz_min zx ((zr r hrm).2.mono (by decide))).mono (by decide)
      refine ⟨mv, v1, r.w, r.man, lmin x r.b, rfl, hm.x0 n2, a2, (T.row r hrm).w12, fun l u e => ⟨((zr r hrm).1 l u e).1.mono (by decide), ((zr r hrm).1 l u e).2.mono (by decide)⟩, zm, fun v2 H3 n3 a3 => ?_⟩
      walk_at "go"
      have hD3 : H3 D = some (.lst acc) := n3 _ _ (n2 _ _ hacc fun z => nomatch z) fun z => nomatch z
      have hl := hams.1
      rw [List.length_map, List.length_take] at hl
      have := T.n
      refine ⟨acc, hD3, Nat.lt_of_le_of_lt (by omega : acc.length ≤ 4000) (by decide), acc ++ [v2], upd_same, ?_, ((e1.trans n2).trans n3).own hD⟩
      rw [take_map hr]
      exact (((hams.x0 n2).x0 n3).w hD3).app (Ams.cons (a3.w hD3) Ams.nil)
    · rintro H1 ⟨acc, hacc, hams, e1⟩
      rw [hrows.1, List.take_length] at hams
      exact k D acc H1 hD hacc hams e1
def spParts (K : PySem.W.Frag) : Sp := fun vs H Q _ => ∃ (a : Addr) (xs : List V) (rows : List Row) (v : V) (x : Rat) (X M N : Nat), vs = [.ref a, v] ∧ SqL K H a xs ∧ RowsIs K H xs rows ∧ Am K H v x ∧ TotOk X M N rows x ∧ RetAll K H Q (rows.map fun r => r.at_ x)
def spAtSo (K : PySem.W.Frag) : Sp := fun vs H Q _ => ∃ (bv v : V) (c : Addr) (xs : List V) (rows : List Row) (x : Rat) (X M N : Nat), vs = [bv, .ref c, v] ∧ H c = some (.lst xs) ∧ RowsIs K H xs rows ∧ Am K H v x ∧ TotOk X M N rows x ∧ ∀ H', Ext [] H H' → Q (.bl true) H'
def spEnough (K : PySem.W.Frag) : Sp := fun vs H Q _ => ∃ (b : Bag) (c : Addr) (g : Nat) (xs : List V) (rows : List Row), vs = [.ref b.a, .ref c] ∧ BagAt K H b ∧ H c = some (.lst xs) ∧ c ≠ b.a ∧ RowsIs K H xs rows ∧ GR g rows ∧
  ∀ v q H', Am K H' v q → In (665280 * g) 65536 q → tot rows 0 ≤ q → BagAt K H' b → Ext [b.a] H H' → Q v H'
theorem leasts_take {rows : List Row} {i : Nat} {r : Row} (h : rows[i]? = some r) : leasts (rows.take (i + 1)) = leasts (rows.take i) ++ (match r.man with | none => [] | some p => [p.1]) := by
  obtain ⟨hl, e⟩ := List.getElem?_eq_some_iff.mp h
  unfold leasts
  rw [← List.take_append_getElem hl, List.filterMap_append, e]
  congr 1
  cases er : r.man with
  | none => rw [List.filterMap_cons, er]; simp
  | some p => rw [List.filterMap_cons, er]; simp
theorem leasts_in {D M : Nat} {rows : List Row} (h : ∀ r ∈ rows, RowOk D M r) : ∀ q ∈ leasts rows, In D M q := fun q hq => by
  obtain ⟨r, hr, e⟩ := List.mem_filterMap.mp hq
  cases em : r.man with
  | none => rw [em] at e; cases e
  | some p => rw [em] at e; cases e; exact ((h r hr).m p.1 p.2 em).1
theorem leasts_len (rows : List Row) : (leasts rows).length ≤ rows.length := List.length_filterMap_le _ _
end
end Yk

set_option maxHeartbeats 8000000
namespace Yk
open PySem PySem.Spec PyProof.Rows L2

/-! A house's supply and rows through changes: the sizes at the j-th of them. -/
def kD (g j : Nat) : Nat := 12 * g * 14 ^ j
def kE (g j : Nat) : Nat := 665280 * g * 168 ^ j
theorem kD_s (g j : Nat) : kD g (j + 1) = kD g j * 14 := by unfold kD; rw [Nat.pow_succ, Nat.mul_assoc (12 * g)]
theorem kE_s (g j : Nat) : kE g (j + 1) = kE g j * 168 := by unfold kE; rw [Nat.pow_succ, Nat.mul_assoc (665280 * g)]
theorem kDE (g : Nat) : ∀ j, kD g j * 27720 ∣ kE g j
  | 0 => ⟨2, by unfold kD kE; omega⟩
  | j + 1 => by
    obtain ⟨c, hc⟩ := kDE g j
    refine ⟨c * 12, ?_⟩
    rw [kD_s, kE_s, hc]
    generalize kD g j = a
    have e1 : a * 27720 * c * 168 = a * 27720 * (c * 168) := Nat.mul_assoc _ _ _
    have e2 : a * 14 * 27720 = a * 27720 * 14 := by omega
    rw [e1, e2, Nat.mul_assoc (a * 27720) 14 (c * 12)]
    congr 1
    omega
theorem kDE' (g j : Nat) : kD g j ∣ kE g j := Nat.dvd_trans (Nat.dvd_mul_right _ _) (kDE g j)
theorem kD0 {g : Nat} (h : 0 < g) (j : Nat) : 0 < kD g j := Nat.mul_pos (by omega) (Nat.pow_pos (by decide))
theorem kE0 {g : Nat} (h : 0 < g) (j : Nat) : 0 < kE g j := Nat.mul_pos (by omega) (Nat.pow_pos (by decide))
theorem kE9 {g j : Nat} (h : g ≤ 2 ^ 60) (hj : j ≤ 7) : kE g j ≤ 2 ^ 140 :=
  Nat.le_trans (Nat.mul_le_mul (Nat.mul_le_mul_left 665280 h) (Nat.pow_le_pow_right (by decide) hj)) (by decide)
theorem kD9 {g j : Nat} (h : g ≤ 2 ^ 60) (hj : j ≤ 7) : kD g j ≤ 2 ^ 140 :=
  Nat.le_trans (Nat.mul_le_mul (Nat.mul_le_mul_left 12 h) (Nat.pow_le_pow_right (by decide) hj)) (by decide)
theorem kgD (g j : Nat) : 12 * g ∣ kD g j := Nat.dvd_mul_right _ _
theorem k12D (g j : Nat) : 12 ∣ kD g j := Nat.dvd_trans (Nat.dvd_mul_right 12 g) (kgD g j)
theorem kD_up (g j : Nat) : kD g j ∣ kD g (j + 1) := ⟨14, kD_s g j⟩
theorem kE_up (g j : Nat) : kE g j ∣ kE g (j + 1) := ⟨168, kE_s g j⟩
theorem RowOk.most {D M M' : Nat} {r : Row} (h : RowOk D M r) (hm : M ≤ M') : RowOk D M' r := ⟨h.w0, h.w12, h.b.most hm, fun l u e => ⟨(h.m l u e).1.most hm, (h.m l u e).2.most hm⟩⟩
theorem ManOk.up {D D' M M' : Nat} {m : Option (Rat × Rat)} (h : ManOk D M m) (hd : D ∣ D') (hm : M ≤ M') : ManOk D' M' m := fun l u e => ⟨((h l u e).1.up hd).most hm, ((h l u e).2.1.up hd).most hm, (h l u e).2.2⟩
/-- a row as it may be behind j changes -/
structure KR (g j : Nat) (r : Row) : Prop where
  ok : RowOk (kD g j) (4096 + 2048 * j) r
  lu : ∀ l u, r.man = some (l, u) → l ≤ u
theorem KR.up {g j : Nat} {r : Row} (h : KR g j r) : KR g (j + 1) r := ⟨(h.ok.up (kD_up g j)).most (by omega), h.lu⟩
theorem KR.man {g j : Nat} {r : Row} (h : KR g j r) : ManOk (kD g j) (4096 + 2048 * j) r.man := fun l u e => ⟨(h.ok.m l u e).1, (h.ok.m l u e).2, h.lu l u e⟩
theorem KR.of {g j w : Nat} {man : Option (Rat × Rat)} {q : Rat} (h1 : ManOk (kD g j) (4096 + 2048 * j) man) (h2 : In (kD g j) (4096 + 2048 * j) q) (h0 : 0 < w) (h12 : w ≤ 12) : KR g j ⟨man, w, q⟩ := ⟨⟨h0, h12, h2, fun l u e => ⟨(h1 l u e).1, (h1 l u e).2.1⟩⟩, fun l u e => (h1 l u e).2.2⟩
structure KS (g j : Nat) (rows : List Row) (goal : Rat) : Prop where
  g0 : 0 < g
  g9 : g ≤ 2 ^ 60
  j7 : j ≤ 7
  row : ∀ r ∈ rows, KR g j r
  n : rows.length ≤ 8
  goal : In (kE g j) 65536 goal
theorem KS.of {g : Nat} {rows : List Row} {goal : Rat} (G : GR g rows) (ig : In (665280 * g) 65536 goal) : KS g 0 rows goal := by
  have e1 : kD g 0 = 12 * g := by unfold kD; omega
  have e2 : kE g 0 = 665280 * g := by unfold kE; omega
  refine ⟨G.g0, G.g9, Nat.zero_le _, fun r hr => ⟨?_, (G.ok r hr).lu⟩, G.n, ?_⟩
  · rw [e1]; exact (G.ok r hr).ok
  · rw [e2]; exact ig
theorem KS.rowM {g j : Nat} {rows : List Row} {goal : Rat} (h : KS g j rows goal) : ∀ r ∈ rows, RowOk (kD g j) 32768 r := fun r hr => (h.row r hr).ok.most (by have := h.j7; omega)
theorem KS.lev {g j : Nat} {rows : List Row} {goal : Rat} (h : KS g j rows goal) : LevOk (kD g j) (kE g j) 32768 262144 rows goal 1000 :=
  ⟨kD0 h.g0 j, h.rowM, h.n, kDE g j, kE0 h.g0 j, kE9 h.g9 h.j7, by decide, by decide, h.goal.most (by decide), In.nat (n := 1000) (by decide)⟩
/-- a level with its size -/
structure LevK (E : Nat) (rows : List Row) (goal y : Rat) (X : Nat) : Prop where
  lev : IsLev (tot rows) 1000 goal y
  X0 : 0 < X
  dv : E ∣ X
  X9 : X ≤ 2 ^ 310
  inn : In X 32768 y
theorem LevK.sz {E X : Nat} {rows : List Row} {goal y : Rat} (L : LevK E rows goal y X) : Sz 4000 y := sz65 L.inn L.X0 (x220 L.X9) (by decide)
theorem LevK.tok {g j X : Nat} {rows : List Row} {goal y : Rat} (L : LevK (kE g j) rows goal y X) (h : KS g j rows goal) : TotOk X 32768 32768 rows y :=
  ⟨L.X0, x220 L.X9, by decide, by decide, fun r hr => (h.rowM r hr).up (Nat.dvd_trans (kDE' g j) L.dv), L.inn, h.n⟩
/-- what a change does -/
structure Chg (rows : List Row) (goal : Rat) (rows' : List Row) (goal' : Rat) (z : Int) : Prop where
  tot : ∀ x, 0 ≤ x → Yk.tot rows x ≤ Yk.tot rows' x
  goal : goal' ≤ goal
  same : ∀ (i : Nat) (r : Row), rows[i]? = some r → (i : Int) ≠ z → rows'[i]? = some r
theorem Chg.le {rows rows' : List Row} {goal goal' y y' : Rat} {z : Int} (c : Chg rows goal rows' goal' z) (h : IsLev (Yk.tot rows) 1000 goal y) (h' : IsLev (Yk.tot rows') 1000 goal' y') : y' ≤ y := nlt fun hy => by
  have h1 := h'.lo y h.nn hy
  have h2 := c.tot y h.nn
  have h3 := c.goal
  rcases h.hi with e | e
  · grind
  · have := h'.le; grind
theorem tot_app (a b : List Row) (x : Rat) : tot (a ++ b) x = tot a x + tot b x := by
  induction a with
  | nil => show tot b x = 0 + tot b x; rw [Rat.zero_add]
  | cons r a ih => rw [List.cons_append, tot_cons, tot_cons, ih, Rat.add_assoc]
theorem tot_one (r : Row) (x : Rat) : tot [r] x = r.at_ x := by rw [tot_cons]; show r.at_ x + 0 = _; rw [Rat.add_zero]
theorem shq_nn {D M w : Nat} {man : Option (Rat × Rat)} {x : Rat} (h : ManOk D M man) : 0 ≤ shq man w x := by
  cases man with
  | none => exact Rat.le_refl
  | some p =>
    obtain ⟨l, u⟩ := p
    have h1 := (h l u rfl).1.nn
    show 0 ≤ lmax l _
    unfold lmax
    grind
theorem Chg.snoc {g j : Nat} {rows : List Row} {goal : Rat} {r : Row} (h : KR g j r) : Chg rows goal (rows ++ [r]) goal (rows.length : Int) :=
  ⟨fun x _ => by
    rw [tot_app, tot_one]
    have := shq_nn (w := r.w) (x := lmin x r.b) h.man
    have e : r.at_ x = shq r.man r.w (lmin x r.b) := rfl
    grind, Rat.le_refl, fun i s hs _ => by
    rw [List.getElem?_append_left (List.getElem?_eq_some_iff.mp hs).1]; exact hs⟩
theorem Chg.stay {rows : List Row} {goal : Rat} {z : Int} : Chg rows goal rows goal z := ⟨fun _ _ => Rat.le_refl, Rat.le_refl, fun _ _ h _ => h⟩
theorem Chg.less {rows : List Row} {goal goal' : Rat} {z : Int} (h : goal' ≤ goal) : Chg rows goal rows goal' z := ⟨fun _ _ => Rat.le_refl, h, fun _ _ h _ => h⟩
theorem row_split {rows : List Row} {s : Nat} {r : Row} (h : rows[s]? = some r) : rows = rows.take s ++ [r] ++ rows.drop (s + 1) := by
  obtain ⟨hl, e⟩ := List.getElem?_eq_some_iff.mp h
  rw [← e, List.append_assoc, List.singleton_append, List.getElem_cons_drop, List.take_append_drop]
theorem Chg.at_ {rows : List Row} {goal : Rat} {s : Nat} {r r' : Row} (h : rows[s]? = some r) (le : ∀ x, 0 ≤ x → r.at_ x ≤ r'.at_ x) : Chg rows goal (rows.take s ++ [r'] ++ rows.drop (s + 1)) goal (s : Int) := by
  refine ⟨fun x x0 => ?_, Rat.le_refl, fun i t ht hi => ?_⟩
  · have e : Yk.tot rows x = Yk.tot (rows.take s ++ [r] ++ rows.drop (s + 1)) x := by rw [← row_split h]
    rw [e, tot_app, tot_app, tot_app, tot_app, tot_one, tot_one]
    have := le x x0
    grind
  · have hl := (List.getElem?_eq_some_iff.mp h).1
    have e : rows.take s ++ [r'] ++ rows.drop (s + 1) = rows.set s r' := by
      rw [List.set_eq_take_append_cons_drop, if_pos hl, List.append_assoc, List.singleton_append]
    rw [e, List.getElem?_set_ne (by omega)]
    exact ht
/-- wider manners -/
def Wid (m m' : Option (Rat × Rat)) : Prop := ∀ (w : Nat) (x : Rat), shq m w x ≤ shq m' w x
theorem wid_none {D M : Nat} {m : Option (Rat × Rat)} (h : ManOk D M m) : Wid none m := fun w x => shq_nn h
theorem wid_some {l u l' u' : Rat} (h1 : l ≤ l') (h2 : u ≤ u') : Wid (some (l, u)) (some (l', u')) := fun w x => by
  show lmax l (lmin u ((w : Rat) * x)) ≤ lmax l' (lmin u' ((w : Rat) * x))
  generalize (w : Rat) * x = z
  unfold lmax lmin
  grind
theorem bound_le {r : Row} {b : Rat} (h : r.b ≤ b) (x : Rat) : r.at_ x ≤ (⟨r.man, r.w, b⟩ : Row).at_ x := shq_mono (by show lmin x r.b ≤ lmin x b; unfold lmin; grind)
section
variable {K : PySem.W.Frag} {H : Hp} {Q : VK} {E : XK}
theorem of_three {b : Bag} {l : Addr} {x y u : V} (hb : BagAt K H b) (hl : SqL K H l [x, y, u]) (hne : b.a ≠ l) (k : ∀ z H', (z = x ∨ z = y ∨ z = u) → BagAt K H' b → Ext [b.a] H H' → Q z H') : spOf K [.ref b.a, .ref l] H Q E :=
  ⟨b, l, _, rfl, hb, hl, hne, Nat.zero_lt_succ _, show 3 ≤ 4000 by decide, fun i z H' hx hb' e => by
    match i, hx with
    | 0, hx => cases hx; exact k _ H' (.inl rfl) hb' e
    | 1, hx => cases hx; exact k _ H' (.inr (.inl rfl)) hb' e
    | 2, hx => cases hx; exact k _ H' (.inr (.inr rfl)) hb' e
    | i + 3, hx => cases hx⟩
theorem eq_rows {c p : Addr} {xs : List V} {rows : List Row} (h : RowsIs K H xs rows) (hc : SqL K H c xs) (hp : SqL K H p []) (k : Q (.bl rows.isEmpty) H) : rEqD K (.ref c) (.ref p) H Q := by
  obtain ⟨ds, b1, b2, b3, b4⟩ := dp_rows h
  refine ⟨.list ds, .list [], .lst hc b1, .lst hp .nil, ?_, rfl, ?_⟩
  · simp [SeqAt.shaped, PyData.canLay0, b2, PyData.depth]
    omega
  · have e : PyData.eqv (.list ds) (.list []) = rows.isEmpty := by
      cases ds with
      | nil => cases rows with
        | nil => rfl
        | cons r t => simp at b4
      | cons d ds => cases rows with
        | nil => simp at b4
        | cons r t => rfl
    rw [e]
    exact k
theorem r_orD {b : Bool} {A C : Prop} (hA : A) (hC : b = false → A → C) : if b = true then A else C := by
  cases b with
  | true => rw [if_pos rfl]; exact hA
  | false => rw [if_neg (by decide)]; exact hC rfl hA
end
section
variable {P : Program} {w : World} {K : PySem.W.Frag} {mg : Str → Option Value} {base : Heap} {f : Addr} {fd : FuncData}
def spWider (K : PySem.W.Frag) : Sp := fun vs H Q _ => ∃ (b : Bag) (m : V) (man : Option (Rat × Rat)) (g j : Nat), vs = [.ref b.a, m, .int (g : Int)] ∧ BagAt K H b ∧ ManIs K H m man ∧ ManOk (kD g j) (4096 + 2048 * j) man ∧ 0 < g ∧ g ≤ 2 ^ 60 ∧ j < 7 ∧
  ∀ v man' H', ManIs K H' v man' → ManOk (kD g (j + 1)) (4096 + 2048 * (j + 1)) man' → Wid man man' → BagAt K H' b → Ext [b.a] H H' → Q v H'
abbrev s_law_wider : Stmt := top 53
theorem c_law_wider : FnScope ["_law_bag_here", "_law_wish_here", "_law_grid_here", "_law_b", "_law_a"] ["_law_bag_here", "_law_wish_here", "_law_grid_here"] (defScope s_law_wider) := ⟨rfl, rfl, rfl, by decide +kernel, rfl, by decide +kernel, by decide +kernel⟩
theorem f_law_wider (F : FunD K "_law_wider" "_law_wider" (defArgs s_law_wider) (defBody s_law_wider) (defScope s_law_wider) [] [] f fd) (hm : mg "_law_wider" = some (.ref f)) (F_law_of : Fn P w K mg base 2 "_law_of" (spOf K)) (F_law_wish : Fn P w K mg base 5 "_law_wish" (spWish K)) (F_law_bit : Fn P w K mg base 3 "_law_bit" (spBit K)) (F_law_fine : Fn P w K mg base 4 "_law_fine" (spFine K)) (F_law_add : Fn P w K mg base 2 "_law_add" (sp2 (fun _ _ => True) (· + ·) K)) (F_law_sub : Fn P w K mg base 2 "_law_sub" (sp2 (fun p q => q ≤ p) (· - ·) K)) (F_law_mul : Fn P w K mg base 2 "_law_mul" (sp2 (fun _ _ => True) (· * ·) K)) : Fn P w K mg base 6 "_law_wider" (spWider K) := by
  refine fn_def F hm c_law_wider (fun vs H Q E h => ?_) (fun _ _ _ _ _ _ us hl => match us, hl with | [_, _, _], _ => rfl) (fun cdv A outer s H vs Q E hr h => ?_)
  · obtain ⟨b, m, man, g, j, rfl, _⟩ := h
    rfl
  · obtain ⟨b, m, man, g, j, rfl, hb, hm, mo, g0, g9, j7, k⟩ := h
    have nd := c_law_wider.nd
    refine ⟨_, (pss_cons (ps_if (pt_cmpR (op_eqD hr.units) (pv 1) (pe_tup pa_nil) (nomark _))
        (pss_one (ps_ret (pe_fn F_law_of (hr.mono (by decide)) (pa_cons (pv 0) (pa_cons (pe_lst (pa_cons (pe_fn F_law_wish (hr.mono (by decide)) (pa_cons (pv 0) (pa_cons (pv 2) pa_nil))) (pa_cons (pe_tup (pa_cons (pe_tup (pa_cons pe_int (pa_cons pe_int pa_nil))) (pa_cons (pe_tup (pa_cons pe_int (pa_cons pe_int pa_nil))) pa_nil))) (pa_cons (pe_tup (pa_cons (pe_tup (pa_cons pe_int (pa_cons pe_int pa_nil))) (pa_cons (pe_fn F_law_bit (hr.mono (by decide)) (pa_cons (pv 0) pa_nil)) pa_nil))) pa_nil)))) pa_nil)))))
        pss_nil)
      (pss_cons (ps_set (i := 3) nd rfl (by first | exact Or.inl rfl | exact Or.inr rfl) (pe_fn F_law_add (hr.mono (by decide)) (pa_cons (pe_ix ix_tup (pv 1) pe_int (fun _ _ => rfl)) (pa_cons (pe_fn F_law_of (hr.mono (by decide)) (pa_cons (pv 0) (pa_cons (pe_lst (pa_cons (pe_tup (pa_cons pe_int (pa_cons pe_int pa_nil))) (pa_cons (pe_fn F_law_bit (hr.mono (by decide)) (pa_cons (pv 0) pa_nil)) (pa_cons (pe_fn F_law_fine (hr.mono (by decide)) (pa_cons (pv 0) (pa_cons (pv 2) pa_nil))) pa_nil)))) pa_nil))) pa_nil))))
      (pss_cons (ps_set (i := 4) nd rfl (by first | exact Or.inl rfl | exact Or.inr rfl) (pe_fn F_law_add (hr.mono (by decide)) (pa_cons (pe_ix ix_tup (pv 1) pe_int (fun _ _ => rfl)) (pa_cons (pe_fn F_law_of (hr.mono (by decide)) (pa_cons (pv 0) (pa_cons (pe_lst (pa_cons (pe_tup (pa_cons pe_int (pa_cons pe_int pa_nil))) (pa_cons (pe_fn F_law_mul (hr.mono (by decide)) (pa_cons (pe_fn F_law_sub (hr.mono (by decide)) (pa_cons (pv 3) (pa_cons (pe_ix ix_tup (pv 1) pe_int (fun _ _ => rfl)) pa_nil))) (pa_cons (pe_fn F_law_of (hr.mono (by decide)) (pa_cons (pv 0) (pa_cons (pe_lst (pa_cons (pe_tup (pa_cons pe_int (pa_cons pe_int pa_nil))) (pa_cons (pe_tup (pa_cons pe_int (pa_cons pe_int pa_nil))) (pa_cons (pe_tup (pa_cons pe_int (pa_cons pe_int pa_nil))) pa_nil)))) pa_nil))) pa_nil))) pa_nil))) pa_nil))) pa_nil))))
      (pss_one (ps_ret (pe_tup (pa_cons (pv 4) (pa_cons (pv 3) pa_nil)))))))), ?_⟩
    show (_ : TS) _ [some _, some _, some _, none, none] _
    try dsimp only [cxOf, Cx.nox]
    have D0 := kD0 g0 j
    have D9 := Nat.le_trans (kD9 g9 (Nat.le_of_lt j7)) le_two
    have d0 := kD0 g0 (j + 1)
    have d9 := Nat.le_trans (kD9 g9 j7) le_two
    walk_at "go"
    refine eq_man (hm.x0 (Ext.refl.new (by assumption))) tupS ?_
    rename_i pe hpe
    have en := (Ext.refl (S := []) (H := H)).new (o := .tup []) hpe
    have b0 := hb.x0 en
    have hm0 := hm.x0 en
    generalize upd H pe (.tup []) = H0 at *
    walk_at "go"
    cases man with
    | none =>
      walk_at "run"
      refine ⟨b, g, rfl, b0, g0, g9, fun v1 man1 H1 hm1 mo1 b1 n1 => ?_⟩
      walk_at "go"
      rename_i p1 hp1 p2 hp2 p3 hp3 p4 hp4
      have e5 : Ext [] H1 (upd (upd (upd (upd H1 p1 (.tup [.int 0, .int 1])) p2 (.tup [.int 0, .int 1])) p3 (.tup [.ref p1, .ref p2])) p4 (.tup [.int 0, .int 1])) := by walk_at "ext"
      have t3 : ManIs K (upd (upd (upd (upd H1 p1 (.tup [.int 0, .int 1])) p2 (.tup [.int 0, .int 1])) p3 (.tup [.ref p1, .ref p2])) p4 (.tup [.int 0, .int 1])) (.ref p3) (some (0, 0)) := ⟨p3, .ref p1, .ref p2, rfl, by walk_at "sq", ⟨p1, rfl, by walk_at "sq"⟩, ⟨p2, rfl, by walk_at "sq"⟩⟩
      have t4 : Am K (upd (upd (upd (upd H1 p1 (.tup [.int 0, .int 1])) p2 (.tup [.int 0, .int 1])) p3 (.tup [.ref p1, .ref p2])) p4 (.tup [.int 0, .int 1])) (.ref p4) 0 := ⟨p4, rfl, tupS⟩
      have b5 := b1.x0 e5
      have hm5 := hm1.x0 e5
      generalize upd (upd (upd (upd H1 p1 (.tup [.int 0, .int 1])) p2 (.tup [.int 0, .int 1])) p3 (.tup [.ref p1, .ref p2])) p4 (.tup [.int 0, .int 1]) = H5 at *
      refine k_bit b5 fun v2 q2 H6 a2 i2 b6 n6 => ?_
      walk_at "go"
      rename_i p6 hp6 pl hpl
      have hm6 := hm5.b b5 n6
      have t36 := t3.b b5 n6
      have t46 := t4.b b5 n6
      have e7 : Ext [] H6 (upd (upd H6 p6 (.tup [.ref p4, v2])) pl (.lst [v1, .ref p3, .ref p6])) := by walk_at "ext"
      have t6 : ManIs K (upd (upd H6 p6 (.tup [.ref p4, v2])) pl (.lst [v1, .ref p3, .ref p6])) (.ref p6) (some (0, q2)) := ⟨p6, .ref p4, v2, rfl, by walk_at "sq", t46.x0 e7, a2.x0 e7⟩
      have b7 := b6.x0 e7
      have hm7 := hm6.x0 e7
      have t37 := t36.x0 e7
      have nb := (b6.new hp6).ne hpl
      have hl7 : SqL K (upd (upd H6 p6 (.tup [.ref p4, v2])) pl (.lst [v1, .ref p3, .ref p6])) pl [v1, .ref p3, .ref p6] := lstS
      generalize upd (upd H6 p6 (.tup [.ref p4, v2])) pl (.lst [v1, .ref p3, .ref p6]) = H7 at *
      refine of_three b7 hl7 nb fun z H8 hz b8 n8 => ?_
      have M8 : ∃ man', ManIs K H7 z man' ∧ ManOk (kD g (j + 1)) (4096 + 2048 * (j + 1)) man' := by
        rcases hz with rfl | rfl | rfl
        · exact ⟨man1, hm7, mo1.up (kgD g (j + 1)) (by omega)⟩
        · exact ⟨_, t37, man2 In.zero In.zero Rat.le_refl⟩
        · exact ⟨_, t6, man2 In.zero ((i2.up (k12D g (j + 1))).most (by omega)) i2.nn⟩
      obtain ⟨man', m8, mo8⟩ := M8
      exact k z man' H8 (m8.b b7 n8) mo8 (wid_none mo8) b8 (en.of0.trans (n1.trans (e5.of0.trans (n6.trans (e7.of0.trans n8)))))
    | some p =>
      obtain ⟨l, u⟩ := p
      obtain ⟨il, iu, lu⟩ := mo l u rfl
      obtain ⟨am, v1, v2, rfl, hmt, a1, a2⟩ := hm0
      have M9 : 4096 + 2048 * j ≤ 32768 := by omega
      walk_at "run"
      rename_i p1 hp1
      have t0 : Am K (upd H0 p1 (.tup [.int 0, .int 1])) (.ref p1) 0 := ⟨p1, rfl, tupS⟩
      have n01 := (Ext.refl (S := []) (H := H0)).new (o := .tup [.int 0, .int 1]) hp1
      have b01 := b0.x0 n01
      generalize upd H0 p1 (.tup [.int 0, .int 1]) = H01 at *
      refine k_bit b01 fun vb qb H1 ab ib b1 n1 => ?_
      walk_at "go"
      refine ⟨b, g, rfl, b1, g0, g9, fun vf qf H2 af if_ b2 n2 => ?_⟩
      walk_at "go"
      rename_i pl hpl
      have n12 := n1.trans n2
      refine of_am (qs := [0, qb, qf]) (b2.new hpl) lstS (b2.ne hpl) (Ams.cons ((t0.b b01 n12).n hpl) (Ams.cons ((ab.b b1 n2).n hpl) (Ams.cons (af.n hpl) Ams.nil))) (Nat.zero_lt_succ _) (show 3 ≤ 4000 by decide) fun v3 q3 H3 hq3 a3 b3 n3 => ?_
      have i3 : In (kD g j) 2048 q3 := by
        simp only [List.mem_cons, List.not_mem_nil, or_false] at hq3
        rcases hq3 with rfl | rfl | rfl
        · exact In.zero
        · exact (ib.up (k12D g j)).most (by decide)
        · exact (if_.up (kgD g j)).most (by decide)
      have n03 : Ext [b.a] H0 H3 := n01.of0.trans (n12.trans ((Ext.refl.new hpl).trans n3))
      have a13 := a1.b b0 n03
      have a23 := a2.b b0 n03
      have hmt3 := tupB b0 n03 hmt
      walk_at "go"
      refine k_two a23 a3 (sz65 iu D0 D9 (by omega)) (sz65 i3 D0 D9 (by decide)) iu.nn i3.nn trivial fun v4 H4 n4 a4 => ?_
      have iu' := iu.add i3
      have uu : u ≤ u + q3 := by have := i3.nn; grind
      have lu' : l ≤ u + q3 := Rat.le_trans lu uu
      generalize u + q3 = u' at *
      have a14 := a13.x0 n4
      have hmt4 := tup0 n4 hmt3
      have b4 := b3.x0 n4
      walk_at "go"
      rename_i p5 hp5
      have n45 := (Ext.refl (S := []) (H := H4)).new (o := .tup [.int 0, .int 1]) hp5
      have t5 : Am K (upd H4 p5 (.tup [.int 0, .int 1])) (.ref p5) 0 := ⟨p5, rfl, tupS⟩
      have a15 := a14.x0 n45
      have a45 := a4.x0 n45
      have b5 := b4.x0 n45
      generalize upd H4 p5 (.tup [.int 0, .int 1]) = H5 at *
      refine k_two a45 a15 (sz65 iu' D0 D9 (by omega)) (sz65 il D0 D9 (by omega)) iu'.nn il.nn lu' fun v6 H6 n6 a6 => ?_
      have id := iu'.sub il lu'
      have n56 := n6
      have b6 := b5.x0 n6
      walk_at "go"
      rename_i p7 hp7 p8 hp8 p9 hp9 pm hpm
      have e7 : Ext [] H6 (upd (upd (upd (upd H6 p7 (.tup [.int 1, .int 1])) p8 (.tup [.int 1, .int 2])) p9 (.tup [.int 1, .int 7])) pm (.lst [.ref p7, .ref p8, .ref p9])) := by walk_at "ext"
      have t7 : Am K (upd (upd (upd (upd H6 p7 (.tup [.int 1, .int 1])) p8 (.tup [.int 1, .int 2])) p9 (.tup [.int 1, .int 7])) pm (.lst [.ref p7, .ref p8, .ref p9])) (.ref p7) 1 := ⟨p7, rfl, by walk_at "sq"⟩
      have t8 : Am K (upd (upd (upd (upd H6 p7 (.tup [.int 1, .int 1])) p8 (.tup [.int 1, .int 2])) p9 (.tup [.int 1, .int 7])) pm (.lst [.ref p7, .ref p8, .ref p9])) (.ref p8) (mkRat ((1 : Nat) : Int) 2) := ⟨p8, rfl, by walk_at "sq"⟩
      have t9 : Am K (upd (upd (upd (upd H6 p7 (.tup [.int 1, .int 1])) p8 (.tup [.int 1, .int 2])) p9 (.tup [.int 1, .int 7])) pm (.lst [.ref p7, .ref p8, .ref p9])) (.ref p9) (mkRat ((1 : Nat) : Int) 7) := ⟨p9, rfl, by walk_at "sq"⟩
      have hl7 : SqL K (upd (upd (upd (upd H6 p7 (.tup [.int 1, .int 1])) p8 (.tup [.int 1, .int 2])) p9 (.tup [.int 1, .int 7])) pm (.lst [.ref p7, .ref p8, .ref p9])) pm [.ref p7, .ref p8, .ref p9] := lstS
      have nb7 := (((b6.new (o := .tup [.int 1, .int 1]) hp7).new (o := .tup [.int 1, .int 2]) hp8).new (o := .tup [.int 1, .int 7]) hp9).ne hpm
      generalize upd (upd (upd (upd H6 p7 (.tup [.int 1, .int 1])) p8 (.tup [.int 1, .int 2])) p9 (.tup [.int 1, .int 7])) pm (.lst [.ref p7, .ref p8, .ref p9]) = H7 at *
      have b7 := b6.x0 e7
      refine of_am (qs := [1, mkRat ((1 : Nat) : Int) 2, mkRat ((1 : Nat) : Int) 7]) b7 hl7 nb7 (Ams.cons t7 (Ams.cons t8 (Ams.cons t9 Ams.nil))) (Nat.zero_lt_succ _) (show 3 ≤ 4000 by decide) fun v8 q8 H8 hq8 a8 b8 n8 => ?_
      have i8 : In 14 1 q8 := by
        simp only [List.mem_cons, List.not_mem_nil, or_false] at hq8
        rcases hq8 with rfl | rfl | rfl
        · exact In.nat (n := 1) (by decide)
        · exact In.frac (by decide) ⟨7, by decide⟩ (by decide)
        · exact In.frac (by decide) ⟨2, by decide⟩ (by decide)
      walk_at "go"
      have n68 : Ext [b.a] H6 H8 := e7.of0.trans n8
      refine k_two (a6.b b6 n68) a8 (sz65 id D0 D9 (by omega)) (sz65 i8 (by decide) (by decide) (by decide)) id.nn i8.nn trivial fun v9 H9 n9 a9 => ?_
      have i9 := id.mul i8
      rw [← kD_s] at i9
      have l9 : (u' - l) * q8 ≤ u' - l := by
        have h := Rat.mul_le_mul_of_nonneg_left i8.le id.nn
        grind
      generalize (u' - l) * q8 = q9 at *
      have b9 := b8.x0 n9
      walk_at "go"
      rename_i pn hpn
      have n59 : Ext [b.a] H5 H9 := n6.of0.trans (n68.trans n9.of0)
      refine of_am (qs := [0, q9]) (b9.new hpn) lstS (b9.ne hpn) (Ams.cons ((t5.b b5 n59).n hpn) (Ams.cons (a9.n hpn) Ams.nil)) (Nat.zero_lt_succ _) (show 2 ≤ 4000 by decide) fun v10 q10 H10 hq10 a10 b10 n10 => ?_
      have i10 : In (kD g (j + 1)) (4096 + 2048 * (j + 1)) q10 ∧ q10 ≤ u' - l := by
        simp only [List.mem_cons, List.not_mem_nil, or_false] at hq10
        rcases hq10 with rfl | rfl
        · exact ⟨In.zero, id.nn⟩
        · exact ⟨i9.most (by omega), l9⟩
      have n510 : Ext [b.a] H5 H10 := n59.trans ((Ext.refl.new hpn).trans n10)
      walk_at "go"
      refine k_two (a15.b b5 n510) a10 (sz65 il D0 D9 (by omega)) (sz65 i10.1 d0 d9 (by omega)) il.nn i10.1.nn trivial fun v11 H11 n11 a11 => ?_
      have i11 := (il.up (kD_up g j)).add i10.1
      have c1 : l ≤ l + q10 := by have := i10.1.nn; grind
      have c2 : l + q10 ≤ u' := by have := i10.2; grind
      generalize l + q10 = l' at *
      walk_at "go"
      rename_i pr hpr
      have n411 : Ext [b.a] H4 H11 := n45.of0.trans (n510.trans n11.of0)
      have iu2 : In (kD g (j + 1)) (4096 + 2048 * (j + 1)) u' := (iu'.up (kD_up g j)).most (by omega)
      have il2 : In (kD g (j + 1)) (4096 + 2048 * (j + 1)) l' := i11.of_le (Rat.le_trans c2 iu2.le)
      exact k _ (some (l', u')) _ ⟨pr, v11, v4, rfl, tupS, a11.n hpr, (a4.b b4 n411).n hpr⟩ (man2 il2 iu2 c2) (wid_some c1 uu) ((b10.x0 n11).new hpr) ((en.of0.trans (n03.trans (n4.of0.trans n411))).new hpr)
end
end Yk

set_option maxHeartbeats 8000000
namespace Yk
open PySem PySem.Spec PyProof.Rows L2

section
variable {K : PySem.W.Frag} {H : Hp}
theorem lot_am {x : Int} {p : Addr} {H1 : Hp} (h0 : 0 ≤ x) (h3 : x < 3) (h : SqT K H1 p [.int (2 + x - 1), .int (2 + x)]) : ∃ t : Rat, Am K H1 (.ref p) t ∧ In 12 1 t := by
  have : x = 0 ∨ x = 1 ∨ x = 2 := by omega
  rcases this with rfl | rfl | rfl
  · exact ⟨mkRat ((1 : Nat) : Int) 2, ⟨p, rfl, h⟩, In.frac (by decide) ⟨6, by decide⟩ (by decide)⟩
  · exact ⟨mkRat ((2 : Nat) : Int) 3, ⟨p, rfl, h⟩, In.frac (by decide) ⟨4, by decide⟩ (by decide)⟩
  · exact ⟨mkRat ((3 : Nat) : Int) 4, ⟨p, rfl, h⟩, In.frac (by decide) ⟨3, by decide⟩ (by decide)⟩
end
section
variable {P : Program} {w : World} {K : PySem.W.Frag} {mg : Str → Option Value} {base : Heap} {f : Addr} {fd : FuncData}
def spChanged (K : PySem.W.Frag) : Sp := fun vs H Q _ => ∃ (b : Bag) (s : V) (c : Addr) (g j : Nat) (xs : List V) (rows : List Row) (goal : Rat), vs = [.ref b.a, s, .ref c, .int (g : Int)] ∧ BagAt K H b ∧ Am K H s goal ∧ H c = some (.lst xs) ∧ c ≠ b.a ∧ RowsIs K H xs rows ∧ KS g j rows goal ∧ j < 7 ∧
  ∀ (p c' : Addr) (sv : V) (z : Int) (xs' : List V) (rows' : List Row) (goal' : Rat) H', H p = none → H' p = some (.lst [sv, .ref c', .int z]) → (c' = c ∨ H c' = none) → H' c' = some (.lst xs') → RowsIs K H' xs' rows' → Am K H' sv goal' → KS g (j + 1) rows' goal' → Chg rows goal rows' goal' z → BagAt K H' b → Ext [b.a] H H' → Q (.ref p) H'
abbrev s_law_changed : Stmt := top 54
theorem c_law_changed : FnScope ["_law_bag_here", "_law_supply_here", "_law_rows", "_law_grid_here", "_law_shape", "_law_row", "_law_lot", "_law_spot"] ["_law_bag_here", "_law_supply_here", "_law_rows", "_law_grid_here"] (defScope s_law_changed) := ⟨rfl, rfl, rfl, by decide +kernel, rfl, by decide +kernel, by decide +kernel⟩
theorem f_law_changed (F : FunD K "_law_changed" "_law_changed" (defArgs s_law_changed) (defBody s_law_changed) (defScope s_law_changed) [] [] f fd) (hm : mg "_law_changed" = some (.ref f)) (T : Bt mg) (F_law_draw : Fn P w K mg base 1 "_law_draw" (spDraw K)) (F_law_of : Fn P w K mg base 2 "_law_of" (spOf K)) (F_law_wish : Fn P w K mg base 5 "_law_wish" (spWish K)) (F_law_bit : Fn P w K mg base 3 "_law_bit" (spBit K)) (F_law_fine : Fn P w K mg base 4 "_law_fine" (spFine K)) (F_law_add : Fn P w K mg base 2 "_law_add" (sp2 (fun _ _ => True) (· + ·) K)) (F_law_mul : Fn P w K mg base 2 "_law_mul" (sp2 (fun _ _ => True) (· * ·) K)) (F_law_wider : Fn P w K mg base 6 "_law_wider" (spWider K)) : Fn P w K mg base 7 "_law_changed" (spChanged K) := by
  refine fn_def F hm c_law_changed (fun vs H Q E h => ?_) (fun _ _ _ _ _ _ us hl => match us, hl with | [_, _, _, _], _ => rfl) (fun cdv A outer s H vs Q E hr h => ?_)
  · obtain ⟨b, s, c, g, j, xs, rows, goal, rfl, _⟩ := h
    rfl
  · obtain ⟨b, s, c, g, j, xs, rows, goal, rfl, hb, hs, hc, ncb, hrows, S, j7, k⟩ := h
    have nd := c_law_changed.nd
    refine ⟨_, (pss_cons (ps_set (i := 4) nd rfl (by first | exact Or.inl rfl | exact Or.inr rfl) (pe_fn F_law_draw (hr.mono (by decide)) (pa_cons (pv 0) (pa_cons pe_int pa_nil))))
      (pss_cons (ps_if (PW.pt (pw_or (pt_cmpR (op_eqD hr.units) (pv 2) (pe_lst pa_nil) (nomark _)) (pw_or1 (pt_cmpR op_eq (pv 4) pe_int (nomark _)))))
        (pss_cons (ps_set (i := 5) nd rfl (by first | exact Or.inl rfl | exact Or.inr rfl) (pe_tup (pa_cons (pe_fn F_law_wish (hr.mono (by decide)) (pa_cons (pv 0) (pa_cons (pv 3) pa_nil))) (pa_cons (pe_op op_add pe_int (pe_fn F_law_draw (hr.mono (by decide)) (pa_cons (pv 0) (pa_cons pe_int pa_nil)))) (pa_cons (pe_fn F_law_of (hr.mono (by decide)) (pa_cons (pv 0) (pa_cons (pe_lst (pa_cons (pe_tup (pa_cons pe_int (pa_cons pe_int pa_nil))) (pa_cons (pe_fn F_law_bit (hr.mono (by decide)) (pa_cons (pv 0) pa_nil)) pa_nil))) pa_nil))) pa_nil)))))
        (pss_one (ps_ret (pe_ifExp (pt_cmpR op_lt (pe_callB cr_len (by rfl) T.len (by decide +kernel) (pa_cons (pv 2) pa_nil)) pe_int (nomark _)) (pe_lst (pa_cons (pv 1) (pa_cons (pe_op op_cat (pv 2) (pe_lst (pa_cons (pv 5) pa_nil))) (pa_cons (pe_callB cr_len (by rfl) T.len (by decide +kernel) (pa_cons (pv 2) pa_nil)) pa_nil)))) (pe_lst (pa_cons (pv 1) (pa_cons (pv 2) (pa_cons pe_int pa_nil))))))))
        pss_nil)
      (pss_cons (ps_if (pt_cmpR op_eq (pv 4) pe_int (nomark _))
        (pss_cons (ps_set (i := 6) nd rfl (by first | exact Or.inl rfl | exact Or.inr rfl) (pe_op op_add pe_int (pe_fn F_law_draw (hr.mono (by decide)) (pa_cons (pv 0) (pa_cons pe_int pa_nil)))))
        (pss_one (ps_ret (pe_lst (pa_cons (pe_fn F_law_mul (hr.mono (by decide)) (pa_cons (pv 1) (pa_cons (pe_tup (pa_cons (pe_op op_sub (pv 6) pe_int) (pa_cons (pv 6) pa_nil))) pa_nil))) (pa_cons (pv 2) (pa_cons (pe_op op_sub pe_int pe_int) pa_nil)))))))
        pss_nil)
      (pss_cons (ps_set (i := 7) nd rfl (by first | exact Or.inl rfl | exact Or.inr rfl) (pe_fn F_law_draw (hr.mono (by decide)) (pa_cons (pv 0) (pa_cons (pe_callB cr_len (by rfl) T.len (by decide +kernel) (pa_cons (pv 2) pa_nil)) pa_nil))))
      (pss_cons (ps_set (i := 5) nd rfl (by first | exact Or.inl rfl | exact Or.inr rfl) (pe_ix ix_list (pv 2) (pv 7) (fun _ _ => rfl)))
      (pss_mid (ps_if (pt_cmpR op_eq (pv 4) pe_int (nomark _))
        (pss_one (ps_set (i := 5) nd rfl (by first | exact Or.inl rfl | exact Or.inr rfl) (pe_tup (pa_cons (pe_ix ix_tup (pv 5) pe_int (fun _ _ => rfl)) (pa_cons (pe_ix ix_tup (pv 5) pe_int (fun _ _ => rfl)) (pa_cons (pe_fn F_law_add (hr.mono (by decide)) (pa_cons (pe_ix ix_tup (pv 5) pe_int (fun _ _ => rfl)) (pa_cons (pe_fn F_law_of (hr.mono (by decide)) (pa_cons (pv 0) (pa_cons (pe_lst (pa_cons (pe_fn F_law_bit (hr.mono (by decide)) (pa_cons (pv 0) pa_nil)) (pa_cons (pe_fn F_law_fine (hr.mono (by decide)) (pa_cons (pv 0) (pa_cons (pv 3) pa_nil))) (pa_cons (pe_tup (pa_cons pe_int (pa_cons pe_int pa_nil))) pa_nil)))) pa_nil))) pa_nil))) pa_nil))))))
        (pss_one (ps_set (i := 5) nd rfl (by first | exact Or.inl rfl | exact Or.inr rfl) (pe_tup (pa_cons (pe_fn F_law_wider (hr.mono (by decide)) (pa_cons (pv 0) (pa_cons (pe_ix ix_tup (pv 5) pe_int (fun _ _ => rfl)) (pa_cons (pv 3) pa_nil)))) (pa_cons (pe_ix ix_tup (pv 5) pe_int (fun _ _ => rfl)) (pa_cons (pe_ix ix_tup (pv 5) pe_int (fun _ _ => rfl)) pa_nil)))))))
      (pss_one (ps_ret (pe_lst (pa_cons (pv 1) (pa_cons (pe_op op_cat (pe_op op_cat (pe_slice sl_list (pv 2) po_none (po_some (pv 7))) (pe_lst (pa_cons (pv 5) pa_nil))) (pe_slice sl_list (pv 2) (po_some (pe_op op_add (pv 7) pe_int)) po_none)) (pa_cons (pv 7) pa_nil)))))))))))), ?_⟩
    show (_ : TS) _ [some _, some _, some _, some _, none, none, none, none] _
    try dsimp only [cxOf, Cx.nox]
    have g0 := S.g0
    have g9 := S.g9
    have D0 := kD0 g0 j
    have D9 := Nat.le_trans (kD9 g9 (Nat.le_of_lt j7)) le_two
    have E0 := kE0 g0 j
    have E9 := Nat.le_trans (kE9 g9 (Nat.le_of_lt j7)) le_two
    have lx := hrows.1
    have ln := S.n
    have up : ∀ r ∈ rows, KR g (j + 1) r := fun r hr => (S.row r hr).up
    have goalS := S.goal.up (kE_up g j)
    have fr : ∀ {H' : Hp} {p : Addr}, Ext [b.a] H H' → BagAt K H' b → H' p = none → H p = none := fun e hb' hp => e.freeS hp fun a ha => by rw [List.mem_singleton.mp ha]; obtain ⟨l, q⟩ := hb'.lst; rw [q]; exact fun z => nomatch z
    walk_at "go"
    refine k_draw hb (by decide) (by decide) fun x1 H1 l1 u1 b1 n1 => ?_
    walk_at "go"
    rename_i pe hpe
    have n2 := n1.new (o := .lst []) hpe
    have b2 := b1.new (o := .lst []) hpe
    have hle : SqL K (upd H1 pe (.lst [])) pe [] := lstS
    generalize upd H1 pe (.lst []) = H2 at *
    have hc2 : H2 c = some (.lst xs) := n2 _ _ hc (by simpa using ncb)
    have r2 := hrows.b hb n2
    have s2 := hs.b hb n2
    refine eq_rows r2 (.inl (.inl hc2)) hle ?_
    walk_at "go"
    refine r_orD ?_ fun hne hA => ?_
    · walk_at "run"
      refine ⟨b, g, rfl, b2, g0, g9, fun mv man H3 hm mo b3 n3 => ?_⟩
      walk_at "go"
      refine k_draw b3 (by decide) (by decide) fun x2 H4 l2 u2 b4 n4 => ?_
      walk_at "go"
      rename_i p1 hp1
      have n4' := (n3.trans n4).new (o := .tup [.int 1000, .int 1]) hp1
      have b4' := b4.new (o := .tup [.int 1000, .int 1]) hp1
      have t1 : Am K (upd H4 p1 (.tup [.int 1000, .int 1])) (.ref p1) 1000 := ⟨p1, rfl, tupS⟩
      have hm4 := (hm.b b3 n4).x0 (Ext.refl.new (o := .tup [.int 1000, .int 1]) hp1)
      generalize upd H4 p1 (.tup [.int 1000, .int 1]) = H5 at *
      refine k_bit b4' fun v5 q5 H6 a5 i5 b6 n6 => ?_
      walk_at "go"
      rename_i pl hpl
      refine of_am (qs := [1000, q5]) (b6.new hpl) lstS (b6.ne hpl) (Ams.cons ((t1.b b4' n6).n hpl) (Ams.cons (a5.n hpl) Ams.nil)) (Nat.zero_lt_succ _) (show 2 ≤ 4000 by decide) fun bv bq H7 hbq abv b7 n7 => ?_
      have ib : In (kD g (j + 1)) (4096 + 2048 * (j + 1)) bq := by
        simp only [List.mem_cons, List.not_mem_nil, or_false] at hbq
        rcases hbq with rfl | rfl
        · exact In.nat (n := 1000) (by omega)
        · exact (i5.up (k12D g (j + 1))).most (by omega)
      have n57 := n6.trans ((Ext.refl.new hpl).trans n7)
      have hm7 := hm4.b b4' n57
      walk_at "go"
      rename_i pr hpr
      have n27 := n4'.trans n57
      have nr : Ext [] H7 (upd H7 pr (.tup [mv, .int (1 + x2), bv])) := Ext.refl.new hpr
      have ew : 1 + x2 = (((1 + x2).toNat : Nat) : Int) := by omega
      have hr8 : RowIs K (upd H7 pr (.tup [mv, .int (1 + x2), bv])) (.ref pr) ⟨man, (1 + x2).toNat, bq⟩ := ⟨pr, mv, bv, rfl, by rw [← ew]; exact tupS, hm7.x0 nr, abv.n hpr⟩
      have kr : KR g (j + 1) ⟨man, (1 + x2).toNat, bq⟩ := KR.of (mo.up (kgD g (j + 1)) (by omega)) ib (by omega) (by omega)
      have n8 := (n2.trans n27).trans nr.of0
      have b8 := b7.x0 nr
      generalize upd H7 pr (.tup [mv, .int (1 + x2), bv]) = H8 at *
      have hc8 : H8 c = some (.lst xs) := n8 _ _ hc (by simpa using ncb)
      have r8 := hrows.b hb n8
      have s8 := hs.b hb n8
      walk_at "go"
      try refine r_len (.inl (.inl (.inl hc8))) ?_
      walk_at "go"
      refine r_dec (fun hlt => ?_) (fun hge => ?_)
      · walk_at "go"
        rename_i pn hpn
        have hc9 : upd H8 pn (.lst [.ref pr]) c = some (.lst xs) := by rw [upd_ne (ne_of_none hc8 hpn)]; exact hc8
        refine ⟨c, pn, xs, [.ref pr], rfl, rfl, hc9, upd_same, Nat.le_trans (by rw [lx]; exact Nat.add_le_add_right ln 1 : xs.length + 1 ≤ 9) (by decide), fun p hp => ?_⟩
        have m9 := (Ext.refl (S := []) (H := H8)).new (o := .lst [.ref pr]) hpn
        have m10 := m9.new (o := .lst (xs ++ [.ref pr])) hp
        have hp8 : upd (upd H8 pn (.lst [.ref pr])) p (.lst (xs ++ [.ref pr])) p = some (.lst (xs ++ [.ref pr])) := upd_same
        have hpf : H p = none := fr (n8.trans m9.of0) (b8.x0 m9) hp
        generalize upd (upd H8 pn (.lst [.ref pr])) p (.lst (xs ++ [.ref pr])) = H10 at *
        walk_at "go"
        try refine r_len (.inl (.inl (.inl (m10 _ _ hc8 fun z => nomatch z)))) ?_
        walk_at "go"
        rename_i q hq
        have e11 := (Ext.refl (S := []) (H := H10)).new (o := .lst [s, .ref p, .int (xs.length : Int)]) hq
        have m11 := m10.trans e11
        have z1 : (xs.length : Int) = (rows.length : Int) := by rw [lx]
        have hqf : H q = none := fr (n8.trans m10.of0) (b8.x0 m10) hq
        refine k q p s _ (xs ++ [.ref pr]) (rows ++ [⟨man, (1 + x2).toNat, bq⟩]) goal _ hqf upd_same (.inr hpf) (e11 _ _ hp8 fun z => nomatch z) ((r8.x0 m11).snoc (hr8.x0 m11)) (s8.x0 m11) ⟨g0, g9, j7, fun r hr => ?_, ?_, goalS⟩ ?_ (b8.x0 m11) (n8.trans m11.of0)
        · rcases List.mem_append.mp hr with h | h
          · exact up r h
          · rw [List.mem_singleton.mp h]; exact kr
        · rw [List.length_append]; show rows.length + 1 ≤ 8; omega
        · rw [z1]; exact Chg.snoc kr
      · walk_at "go"
        rename_i q hq
        have e9 := (Ext.refl (S := []) (H := H8)).new (o := .lst [s, .ref c, .int 0]) hq
        exact k q c s 0 xs rows goal _ (fr n8 b8 hq) upd_same (.inl rfl) (e9 _ _ hc8 fun z => nomatch z) (r8.x0 e9) (s8.x0 e9) ⟨g0, g9, j7, up, ln, goalS⟩ Chg.stay (b8.x0 e9) (n8.trans e9.of0)
    · have hx0 : 0 < xs.length := by
        rw [lx]
        cases rows with
        | nil => cases hne
        | cons r t => simp
      walk_at "go"
      refine r_dec (fun h0 => hA) (fun h0 => ?_)
      walk_at "run"
      refine r_dec (fun h1 => ?_) (fun h1 => ?_)
      · walk_at "go"
        refine k_draw b2 (by decide) (by decide) fun x2 H3 l2 u2 b3 n3 => ?_
        walk_at "go"
        rename_i p1 hp1
        obtain ⟨t, at_, it⟩ := lot_am (K := K) (H1 := upd H3 p1 (.tup [.int (2 + x2 - 1), .int (2 + x2)])) l2 u2 tupS
        have n3' := n3.new (o := .tup [.int (2 + x2 - 1), .int (2 + x2)]) hp1
        have b3' := b3.new (o := .tup [.int (2 + x2 - 1), .int (2 + x2)]) hp1
        generalize upd H3 p1 (.tup [.int (2 + x2 - 1), .int (2 + x2)]) = H4 at *
        refine k_two (s2.b b2 n3') at_ (sz65 S.goal E0 E9 (by decide)) (sz65 it (by decide) (by decide) (by decide)) S.goal.nn it.nn trivial fun v5 H5 n5 a5 => ?_
        walk_at "go"
        rename_i q hq
        have ig := S.goal.mul it
        have lg : goal * t ≤ goal := by
          have h := Rat.mul_le_mul_of_nonneg_left it.le S.goal.nn
          grind
        have n5' := (n2.trans n3').trans n5.of0
        have b5 := b3'.x0 n5
        have e6 := (Ext.refl (S := []) (H := H5)).new (o := .lst [v5, .ref c, .int (0 - 1)]) hq
        have ig2 : In (kE g (j + 1)) 65536 (goal * t) := (ig.up (by rw [kE_s]; exact Nat.mul_dvd_mul_left _ (by decide))).of_le (Rat.le_trans lg S.goal.le)
        refine k q c v5 _ xs rows (goal * t) _ (fr n5' b5 hq) upd_same (.inl rfl) ((n5'.trans e6.of0) _ _ hc (by simpa using ncb)) ((hrows.b hb n5').x0 e6) (a5.n hq) ⟨g0, g9, j7, up, ln, ig2⟩ (Chg.less lg) (b5.x0 e6) (n5'.trans e6.of0)
      · walk_at "go"
        try refine r_len (.inl (.inl (.inl hc2))) ?_
        walk_at "go"
        refine k_draw b2 (by omega) (Int.lt_of_le_of_lt (by omega : (xs.length : Int) ≤ 8) (by decide)) fun x2 H3 l2 u2 b3 n3 => ?_
        have n23 := n2.trans n3
        have hc3 : H3 c = some (.lst xs) := n23 _ _ hc (by simpa using ncb)
        have es : x2 = ((x2.toNat : Nat) : Int) := by omega
        have hsl : x2.toNat < xs.length := by omega
        generalize x2.toNat = i at *
        subst es
        have hx := List.getElem?_eq_getElem hsl
        generalize xs[i] = v at hx
        obtain ⟨r, hr, hrow⟩ := (hrows.b hb n23).at_ hx
        have kr := S.row r (List.mem_of_getElem? hr)
        obtain ⟨at_, mv, bv, rfl, ht, hm, hbv⟩ := hrow
        walk_at "go"
        refine r_ixL (.inl (.inl hc3)) (at_n rfl hx) ?_
        refine r_mid (fun σ' H' => ∃ (v' : V) (r' : Row), σ' = [some (V.ref b.a), some s, some (.ref c), some (.int (g : Int)), some (.int x1), some v', none, some (.int (i : Int))] ∧ RowIs K H' v' r' ∧ KR g (j + 1) r' ∧ (∀ x, 0 ≤ x → r.at_ x ≤ r'.at_ x) ∧ BagAt K H' b ∧ Ext [b.a] H3 H') ?_ ?_
        · walk_at "go"
          refine r_dec (fun h2 => ?_) (fun h2 => ?_)
          · walk_at "go"
            refine k_bit b3 fun v4 q4 H4 a4 i4 b4 n4 => ?_
            walk_at "go"
            refine ⟨b, g, rfl, b4, g0, g9, fun v5 q5 H5 a5 i5 b5 n5 => ?_⟩
            walk_at "go"
            rename_i p6 hp6 pl hpl
            have n35 := n4.trans n5
            have e7 : Ext [] H5 (upd (upd H5 p6 (.tup [.int 1, .int 12])) pl (.lst [v4, v5, .ref p6])) := by walk_at "ext"
            have t6 : Am K (upd (upd H5 p6 (.tup [.int 1, .int 12])) pl (.lst [v4, v5, .ref p6])) (.ref p6) (mkRat ((1 : Nat) : Int) 12) := ⟨p6, rfl, by walk_at "sq"⟩
            refine of_am (qs := [q4, q5, mkRat ((1 : Nat) : Int) 12]) (b5.x0 e7) lstS ((b5.new hp6).ne hpl) (Ams.cons ((a4.b b4 n5).x0 e7) (Ams.cons (a5.x0 e7) (Ams.cons t6 Ams.nil))) (Nat.zero_lt_succ _) (show 3 ≤ 4000 by decide) fun v8 q8 H8 hq8 a8 b8 n8 => ?_
            have i8 : In (kD g j) 2048 q8 := by
              simp only [List.mem_cons, List.not_mem_nil, or_false] at hq8
              rcases hq8 with rfl | rfl | rfl
              · exact (i4.up (k12D g j)).most (by decide)
              · exact (i5.up (kgD g j)).most (by decide)
              · exact (In.frac (M := 1) (by decide) (k12D g j) (by decide)).most (by decide)
            have n38 := n35.trans (e7.of0.trans n8)
            walk_at "go"
            refine k_two (hbv.b b3 n38) a8 (sz65 kr.ok.b D0 D9 (by omega)) (sz65 i8 D0 D9 (by decide)) kr.ok.b.nn i8.nn trivial fun v9 H9 n9 a9 => ?_
            have i9 := kr.ok.b.add i8
            have lb : r.b ≤ r.b + q8 := by have := i8.nn; grind
            generalize r.b + q8 = bq at *
            walk_at "go"
            rename_i pr hpr
            have n39 := n38.trans n9.of0
            have e10 := (Ext.refl (S := []) (H := H9)).new (o := .tup [mv, .int (r.w : Int), v9]) hpr
            exact ⟨_, ⟨r.man, r.w, bq⟩, rfl, ⟨pr, mv, v9, rfl, tupS, (hm.b b3 n39).x0 e10, a9.x0 e10⟩, KR.of (kr.man.up (kD_up g j) (by omega)) ((i9.up (kD_up g j)).most (by omega)) kr.ok.w0 kr.ok.w12, fun x _ => bound_le lb x, (b8.x0 n9).x0 e10, n39.trans e10.of0⟩
          · walk_at "go"
            refine ⟨b, mv, r.man, g, j, rfl, b3, hm, kr.man, g0, g9, j7, fun v4 man' H4 hm4 mo4 wid b4 n4 => ?_⟩
            have ht4 := tupB b3 n4 ht
            have hbv4 := hbv.b b3 n4
            walk_at "go"
            rename_i pr hpr
            have e5 := (Ext.refl (S := []) (H := H4)).new (o := .tup [v4, .int (r.w : Int), bv]) hpr
            exact ⟨_, ⟨man', r.w, r.b⟩, rfl, ⟨pr, v4, bv, rfl, tupS, hm4.x0 e5, hbv4.x0 e5⟩, KR.of mo4 ((kr.ok.b.up (kD_up g j)).most (by omega)) kr.ok.w0 kr.ok.w12, fun x _ => wid r.w (lmin x r.b), b4.x0 e5, n4.trans e5.of0⟩
        · rintro σ' H4 ⟨v', r', rfl, hr', kr', le, b4, n4⟩
          have n04 := n23.trans n4
          have hc4 : H4 c = some (.lst xs) := n04 _ _ hc (by simpa using ncb)
          have r4 := hrows.b hb n04
          have s4 := hs.b hb n04
          walk_at "go"
          refine r_slList (.inl (.inl hc4)) fun p1 hp1 => ?_
          rw [cut_take (by omega)]
          walk_at "go"
          rename_i p2 hp2
          have m2 : Ext [] H4 (upd (upd H4 p1 (.lst (xs.take i))) p2 (.lst [v'])) := by walk_at "ext"
          have h1 : upd (upd H4 p1 (.lst (xs.take i))) p2 (.lst [v']) p1 = some (.lst (xs.take i)) := by rw [upd_ne (ne_of_none (upd_same) hp2)]; exact upd_same
          have h2 : upd (upd H4 p1 (.lst (xs.take i))) p2 (.lst [v']) p2 = some (.lst [v']) := upd_same
          generalize upd (upd H4 p1 (.lst (xs.take i))) p2 (.lst [v']) = H5 at *
          have lt : (xs.take i).length ≤ 8 := by rw [List.length_take]; omega
          refine ⟨p1, p2, xs.take i, [v'], rfl, rfl, h1, h2, Nat.le_trans (Nat.add_le_add_right lt 1 : (xs.take i).length + 1 ≤ 9) (by decide), fun p3 hp3 => ?_⟩
          have m3 := m2.new (o := .lst (xs.take i ++ [v'])) hp3
          have h3 : upd H5 p3 (.lst (xs.take i ++ [v'])) p3 = some (.lst (xs.take i ++ [v'])) := upd_same
          generalize upd H5 p3 (.lst (xs.take i ++ [v'])) = H6 at *
          walk_at "go"
          refine r_slList (.inl (.inl (m3 _ _ hc4 fun z => nomatch z))) fun p4 hp4 => ?_
          have ei : (i : Int) + 1 = ((i + 1 : Nat) : Int) := by omega
          rw [ei, cut_drop (by omega)]
          have m4 := m3.new (o := .lst (xs.drop (i + 1))) hp4
          have h4 : upd H6 p4 (.lst (xs.drop (i + 1))) p4 = some (.lst (xs.drop (i + 1))) := upd_same
          have h34 : upd H6 p4 (.lst (xs.drop (i + 1))) p3 = some (.lst (xs.take i ++ [v'])) := by rw [upd_ne (ne_of_none h3 hp4)]; exact h3
          generalize upd H6 p4 (.lst (xs.drop (i + 1))) = H7 at *
          have ld : (xs.take i ++ [v']).length + (xs.drop (i + 1)).length ≤ 17 := by rw [List.length_append, List.length_drop]; show (xs.take i).length + 1 + _ ≤ _; omega
          walk_at "go"
          refine ⟨p3, p4, _, _, rfl, rfl, h34, h4, Nat.le_trans ld (by decide), fun p5 hp5 => ?_⟩
          have m5 := m4.new (o := .lst (xs.take i ++ [v'] ++ xs.drop (i + 1))) hp5
          have h5 : upd H7 p5 (.lst (xs.take i ++ [v'] ++ xs.drop (i + 1))) p5 = some (.lst (xs.take i ++ [v'] ++ xs.drop (i + 1))) := upd_same
          have f5 : H p5 = none := fr (n04.trans m4.of0) (b4.x0 m4) hp5
          generalize upd H7 p5 (.lst (xs.take i ++ [v'] ++ xs.drop (i + 1))) = H8 at *
          walk_at "go"
          rename_i q hq
          have e9 := (Ext.refl (S := []) (H := H8)).new (o := .lst [s, .ref p5, .int (i : Int)]) hq
          have m9 := m5.trans e9
          have hil := (List.getElem?_eq_some_iff.mp hr).1
          refine k q p5 s _ _ (rows.take i ++ [r'] ++ rows.drop (i + 1)) goal _ (fr (n04.trans m5.of0) (b4.x0 m5) hq) upd_same (.inr f5) (e9 _ _ h5 fun z => nomatch z) ((((r4.x0 m9).take i).app (.cons (hr'.x0 m9) .nil)).app ((r4.x0 m9).drop (i + 1))) (s4.x0 m9) ⟨g0, g9, j7, fun t ht => ?_, ?_, goalS⟩ (Chg.at_ hr le) (b4.x0 m9) (n04.trans m9.of0)
          · rcases List.mem_append.mp ht with h | h
            · rcases List.mem_append.mp h with h | h
              · exact up t (List.mem_of_mem_take h)
              · rw [List.mem_singleton.mp h]; exact kr'
            · exact up t (List.mem_of_mem_drop h)
          · rw [List.length_append, List.length_append, List.length_take, List.length_drop]; show min i rows.length + 1 + (rows.length - (i + 1)) ≤ 8; omega
end
end Yk

set_option maxHeartbeats 8000000
namespace Yk
open PySem PySem.Spec PyProof.Rows L2

/-- a state as it stands: a supply, rows, a spot -/
def StAt (K : PySem.W.Frag) (S : List Addr) (H : Hp) (v : V) (r : List Row × Rat) : Prop := ∃ (a : Addr) (sv : V) (c : Addr) (z : Int) (xs : List V), v = .ref a ∧ H a = some (.lst [sv, .ref c, .int z]) ∧ H c = some (.lst xs) ∧ a ∉ S ∧ c ∉ S ∧ Am K H sv r.2 ∧ RowsIs K H xs r.1
theorem StAt.x {K : PySem.W.Frag} {S T : List Addr} {H H1 : Hp} {v : V} {r : List Row × Rat} (e : Ext T H H1) (hT : ∀ x ∈ T, x ∈ S) (hs : ∀ b ∈ T, ∃ l, H b = some (.lst l)) (h : StAt K S H v r) : StAt K S H1 v r := by
  obtain ⟨a, sv, c, z, xs, rfl, h1, h2, na, nc, h3, h4⟩ := h
  exact ⟨a, sv, c, z, xs, rfl, e _ _ h1 (fun q => na (hT _ q)), e _ _ h2 (fun q => nc (hT _ q)), na, nc, h3.x e hs, h4.x e hs⟩
/-- the states so far (n + 1 of them), the levels that were told (m + 1) -/
structure LS (K : PySem.W.Frag) (H : Hp) (b : Bag) (st tl : Addr) (g n m : Nat) (ss ts : List V) (rs : List (List Row × Rat)) (ys : List Rat) : Prop where
  h0 : ∃ H0, BagAt K H0 b ∧ H0 st = none ∧ H0 tl = none
  bag : BagAt K H b
  hst : H st = some (.lst ss)
  htl : H tl = some (.lst ts)
  n3 : st ≠ tl
  rel : Rel (StAt K [b.a, st, tl] H) ss rs
  ams : Ams K H ts ys
  nr : rs.length = n + 1
  ny : ys.length = m + 1
  ok : ∀ i r, rs[i]? = some r → KS g i r.1 r.2
  lev : ∀ i r y, rs[i]? = some r → ys[i]? = some y → ∃ X, LevK (kE g i) r.1 r.2 y X
  fall : ∀ i y y', ys[i]? = some y → ys[i + 1]? = some y' → y' ≤ y
section
variable {K : PySem.W.Frag} {H H1 : Hp} {b : Bag} {st tl : Addr} {g n m : Nat} {ss ts : List V} {rs : List (List Row × Rat)} {ys : List Rat}
theorem LS.n1 (W : LS K H b st tl g n m ss ts rs ys) : st ≠ b.a := by obtain ⟨H0, h, h1, _⟩ := W.h0; exact (h.ne h1).symm
theorem LS.n2 (W : LS K H b st tl g n m ss ts rs ys) : tl ≠ b.a := by obtain ⟨H0, h, _, h1⟩ := W.h0; exact (h.ne h1).symm
theorem LS.x0 (e : Ext [] H H1) (W : LS K H b st tl g n m ss ts rs ys) : LS K H1 b st tl g n m ss ts rs ys :=
  { W with bag := W.bag.x0 e, hst := e _ _ W.hst (fun z => nomatch z), htl := e _ _ W.htl (fun z => nomatch z), rel := W.rel.imp fun _ _ h => h.x e (fun _ z => nomatch z) (fun _ z => nomatch z), ams := W.ams.x0 e }
theorem LS.bx (e : Ext [b.a] H H1) (hb : BagAt K H1 b) (W : LS K H b st tl g n m ss ts rs ys) : LS K H1 b st tl g n m ss ts rs ys :=
  { W with bag := hb, hst := e _ _ W.hst (by simpa using W.n1), htl := e _ _ W.htl (by simpa using W.n2), rel := W.rel.imp fun _ _ h => h.x e (fun x hx => by rw [List.mem_singleton.mp hx]; exact List.mem_cons_self) (bagS W.bag), ams := W.ams.b W.bag e }
theorem get_snoc {α : Type} {l : List α} {x y : α} {i : Nat} (h : (l ++ [x])[i]? = some y) : l[i]? = some y ∨ i = l.length ∧ y = x := by
  by_cases hi : i < l.length
  · rw [List.getElem?_append_left hi] at h; exact .inl h
  · rw [List.getElem?_append_right (by omega)] at h
    have h2 := (List.getElem?_eq_some_iff.mp h).1
    have h3 : i - l.length = 0 := by simpa using h2
    rw [h3] at h
    exact .inr ⟨by omega, by simpa using h.symm⟩
theorem get_last {α : Type} (l : List α) (x : α) {i : Nat} (h : i = l.length) : (l ++ [x])[i]? = some x := by subst h; simp
theorem get_init {α : Type} {l : List α} {x y : α} {i : Nat} (h : l[i]? = some y) : (l ++ [x])[i]? = some y := by
  rw [List.getElem?_append_left (List.getElem?_eq_some_iff.mp h).1]; exact h
theorem LS.pushS (W : LS K H b st tl g n m ss ts rs ys) (hm : m ≤ n) {v : V} {r : List Row × Rat} (hv : StAt K [b.a, st, tl] H v r) (hk : KS g (n + 1) r.1 r.2) :
    LS K (upd H st (.lst (ss ++ [v]))) b st tl g (n + 1) m (ss ++ [v]) ts (rs ++ [r]) ys := by
  obtain ⟨H0, h, h1, h2⟩ := W.h0
  have ny := W.ny
  have nr := W.nr
  refine { W with bag := h.own h1 W.bag, hst := upd_same, htl := by rw [upd_ne W.n3.symm]; exact W.htl, rel := ?_, ams := W.ams.w W.hst, nr := by rw [List.length_append, nr]; rfl, ok := fun i q hq => ?_, lev := fun i q y hq hy => ?_ }
  · exact (W.rel.snoc hv).imp fun _ _ q => q.x extW (fun x hx => by rw [List.mem_singleton.mp hx]; simp) (lstS1 W.hst)
  · rcases get_snoc hq with q1 | ⟨rfl, rfl⟩
    · exact W.ok i q q1
    · rw [nr]; exact hk
  · rcases get_snoc hq with q1 | ⟨rfl, rfl⟩
    · exact W.lev i q y q1 hy
    · have := (List.getElem?_eq_some_iff.mp hy).1
      omega
theorem LS.pushT (W : LS K H b st tl g n m ss ts rs ys) {v : V} {y : Rat} {r : List Row × Rat} {X : Nat} (hv : Am K H v y) (hr : rs[m + 1]? = some r) (hl : LevK (kE g (m + 1)) r.1 r.2 y X) (hf : ∀ z, ys[m]? = some z → y ≤ z) :
    LS K (upd H tl (.lst (ts ++ [v]))) b st tl g n (m + 1) ss (ts ++ [v]) rs (ys ++ [y]) := by
  obtain ⟨H0, h, h1, h2⟩ := W.h0
  have ny := W.ny
  refine { W with bag := h.own h2 W.bag, htl := upd_same, hst := by rw [upd_ne W.n3]; exact W.hst, rel := ?_, ams := (W.ams.w W.htl).app (Ams.cons (hv.w W.htl) Ams.nil), ny := by rw [List.length_append, ny]; rfl, lev := fun i q z hq hz => ?_, fall := fun i z z' hz hz' => ?_ }
  · exact W.rel.imp fun _ _ q => q.x extW (fun x hx => by rw [List.mem_singleton.mp hx]; simp) (lstS1 W.htl)
  · rcases get_snoc hz with q1 | ⟨e, rfl⟩
    · exact W.lev i q z hq q1
    · rw [e, ny] at hq
      rw [hr] at hq
      cases hq
      rw [e, ny]
      exact ⟨X, hl⟩
  · rcases get_snoc hz' with q1 | ⟨e, rfl⟩
    · have hi := (List.getElem?_eq_some_iff.mp q1).1
      rcases get_snoc hz with q2 | ⟨e2, rfl⟩
      · exact W.fall i z z' q2 q1
      · omega
    · rcases get_snoc hz with q2 | ⟨e2, rfl⟩
      · exact hf z (by rw [show m = i by omega]; exact q2)
      · omega
end
section
variable {K : PySem.W.Frag} {H : Hp} {Q : VK} {E : XK} {v : V} {a : Addr} {g j : Nat} {xs : List V} {rows : List Row} {goal : Rat}
theorem k_lev (S : KS g j rows goal) (ha : SqQ K H a xs) (hr : RowsIs K H xs rows) (hv : Am K H v goal) (k : ∀ v y X H', LevK (kE g j) rows goal y X → Ext [] H H' → Am K H' v y → Q v H') : spLevel K [v, .ref a] H Q E :=
  ⟨v, a, xs, rows, _, _, _, _, goal, rfl, ha, hr, hv, S.lev, fun v y X H' l x0 x1 x2 x3 e av => k v y X H' ⟨l, x0, x1, x2, x3⟩ e av⟩
theorem k_llev (S : KS g j rows goal) (ha : SqL K H a xs) (hr : RowsIs K H xs rows) (hv : Am K H v goal) (k : ∀ v y X H', LevK (kE g j) rows goal y X → Ext [] H H' → Am K H' v y → Q v H') : spLLevel K [v, .ref a] H Q E :=
  ⟨v, a, xs, rows, _, _, _, _, goal, rfl, ha, hr, hv, S.lev, fun v y X H' l x0 x1 x2 x3 e av => k v y X H' ⟨l, x0, x1, x2, x3⟩ e av⟩
theorem LevK.same {E E' X X' : Nat} {y z : Rat} (h : LevK E rows goal y X) (h' : LevK E' rows goal z X') : z = y := h'.lev.uniq h.lev
end
section
variable {P : Program} {w : World} {K : PySem.W.Frag} {mg : Str → Option Value} {base : Heap} {f : Addr} {fd : FuncData}
def spLaw04 (K : PySem.W.Frag) : Sp := fun vs H Q _ => ∃ (a : Addr) (ns : List Int), vs = [.ref a] ∧ SqL K H a (ns.map V.int) ∧ ns.length ≤ 63 ∧ ∀ H', Q (.bl true) H'
abbrev s_law : Stmt := top 55
theorem c_law : FnScope ["_law_script", "_law_bag_here", "_law_turn", "_law_grid_here", "_law_rows", "_law_supply_here", "_law_states", "_law_told", "_law_k", "_law_spot", "_law_one", "_law_two", "_law_j", "_law_back"] ["_law_script"] (defScope s_law) := ⟨rfl, rfl, rfl, by decide +kernel, rfl, by decide +kernel, by decide +kernel⟩
theorem f_law (F : FunD K "law" "law" (defArgs s_law) (defBody s_law) (defScope s_law) [] [] f fd) (hm : mg "law" = some (.ref f)) (T : Bt mg) (F_law_bag : Fn P w K mg base 1 "_law_bag" (spBag K)) (F_law_grid : Fn P w K mg base 3 "_law_grid" (spGrid K)) (F_law_wishes : Fn P w K mg base 6 "_law_wishes" (spWishes K)) (F_law_supply : Fn P w K mg base 5 "_law_supply" (spSupply K)) (F_law_level : Fn P w K mg base 5 "_law_level" (spLLevel K)) (Flevel_of : Fn P w K mg base 11 "level_of" (spLevel K)) (F_law_like : Fn P w K mg base 5 "_law_like" (spLike K 5)) (F_law_changed : Fn P w K mg base 7 "_law_changed" (spChanged K)) (Fallotments : Fn P w K mg base 4 "allotments" (spAllot K)) (F_law_more : Fn P w K mg base 1 "_law_more" (spMore K)) : FnOk P w K mg base CX0 12 f fd ["_law_script"] (spLaw04 K) := by
  refine ok_def F c_law (fun vs H Q E h => ?_) (fun cdv A outer s H vs Q E hr h => ?_)
  · obtain ⟨a, ns, rfl, _⟩ := h
    rfl
  · obtain ⟨a, ns, rfl, hl, h63, k⟩ := h
    have nd := c_law.nd
    refine ⟨_, (pss_cons (ps_set (i := 1) nd rfl (by first | exact Or.inl rfl | exact Or.inr rfl) (pe_fn F_law_bag (hr.mono (by decide)) (pa_cons (pv 0) pa_nil)))
      (pss_cons (ps_for PassesOwn.never rfl (pi_range1 rfl T.range (pa_cons pe_int pa_nil)) (pg_name (i := 2) nd rfl (by first | exact Or.inl rfl | exact Or.inr rfl))
        (pss_cons (ps_set (i := 3) nd rfl (by first | exact Or.inl rfl | exact Or.inr rfl) (pe_fn F_law_grid (hr.mono (by decide)) (pa_cons (pv 1) pa_nil)))
        (pss_cons (ps_set (i := 4) nd rfl (by first | exact Or.inl rfl | exact Or.inr rfl) (pe_fn F_law_wishes (hr.mono (by decide)) (pa_cons (pv 1) (pa_cons pe_int (pa_cons (pv 3) pa_nil)))))
        (pss_cons (ps_set (i := 5) nd rfl (by first | exact Or.inl rfl | exact Or.inr rfl) (pe_fn F_law_supply (hr.mono (by decide)) (pa_cons (pv 1) (pa_cons (pv 4) pa_nil))))
        (pss_cons (ps_set (i := 6) nd rfl (by first | exact Or.inl rfl | exact Or.inr rfl) (pe_lst (pa_cons (pe_lst (pa_cons (pv 5) (pa_cons (pv 4) (pa_cons (pe_op op_sub pe_int pe_int) pa_nil)))) pa_nil)))
        (pss_cons (ps_set (i := 7) nd rfl (by first | exact Or.inl rfl | exact Or.inr rfl) (pe_lst (pa_cons (pe_fn Flevel_of (hr.mono (by decide)) (pa_cons (pv 5) (pa_cons (pv 4) pa_nil))) pa_nil)))
        (pss_mid (ps_if (pt_not (pt_val (pe_fn F_law_like (hr.mono (by decide)) (pa_cons (pe_ix ix_list (pv 7) pe_int (fun _ _ => rfl)) (pa_cons (pe_fn F_law_level (hr.mono (by decide)) (pa_cons (pv 5) (pa_cons (pv 4) pa_nil))) pa_nil)))))
          (pss_one (ps_ret pe_bl))
          pss_nil)
        (pss_cons (ps_for PassesOwn.never rfl (pi_range1 rfl T.range (pa_cons pe_int pa_nil)) (pg_name (i := 8) nd rfl (by first | exact Or.inl rfl | exact Or.inr rfl))
          (pss_cons (ps_expr (pe_bm PySem.F.plainAttrs_list PySem.F.slot_list_append PySem.F.type_list_append mt_append (pv 6) (pa_cons (pe_fn F_law_changed (hr.mono (by decide)) (pa_cons (pv 1) (pa_cons (pe_ix ix_list (pe_ix ix_list (pv 6) (pv 8) (fun _ _ => rfl)) pe_int (fun _ _ => rfl)) (pa_cons (pe_ix ix_list (pe_ix ix_list (pv 6) (pv 8) (fun _ _ => rfl)) pe_int (fun _ _ => rfl)) (pa_cons (pv 3) pa_nil))))) pa_nil)))
          (pss_cons (ps_asg (pe_ix ix_list (pv 6) (pe_op op_add (pv 8) pe_int) (fun _ _ => rfl)) (pg_unl rfl (pgs_cons (pg_name (i := 5) nd rfl (by first | exact Or.inl rfl | exact Or.inr rfl)) (pgs_cons (pg_name (i := 4) nd rfl (by first | exact Or.inl rfl | exact Or.inr rfl)) (pgs_cons (pg_name (i := 9) nd rfl (by first | exact Or.inl rfl | exact Or.inr rfl)) pgs_nil)))))
          (pss_cons (ps_expr (pe_bm PySem.F.plainAttrs_list PySem.F.slot_list_append PySem.F.type_list_append mt_append (pv 7) (pa_cons (pe_fn Flevel_of (hr.mono (by decide)) (pa_cons (pv 5) (pa_cons (pv 4) pa_nil))) pa_nil)))
          (pss_mid (ps_if (PW.pt (pw_or (pt_not (pt_val (pe_fn F_law_like (hr.mono (by decide)) (pa_cons (pe_ix ix_list (pv 7) (pe_op op_add (pv 8) pe_int) (fun _ _ => rfl)) (pa_cons (pe_fn F_law_level (hr.mono (by decide)) (pa_cons (pv 5) (pa_cons (pv 4) pa_nil))) pa_nil))))) (pw_or1 (pt_val (pe_fn F_law_more (hr.mono (by decide)) (pa_cons (pe_ix ix_list (pv 7) (pe_op op_add (pv 8) pe_int) (fun _ _ => rfl)) (pa_cons (pe_ix ix_list (pv 7) (pv 8) (fun _ _ => rfl)) pa_nil)))))))
            (pss_one (ps_ret pe_bl))
            pss_nil)
          (pss_cons (ps_set (i := 10) nd rfl (by first | exact Or.inl rfl | exact Or.inr rfl) (pe_fn Fallotments (hr.mono (by decide)) (pa_cons (pe_ix ix_list (pv 7) (pv 8) (fun _ _ => rfl)) (pa_cons (pe_ix ix_list (pe_ix ix_list (pv 6) (pv 8) (fun _ _ => rfl)) pe_int (fun _ _ => rfl)) pa_nil))))
          (pss_cons (ps_set (i := 11) nd rfl (by first | exact Or.inl rfl | exact Or.inr rfl) (pe_fn Fallotments (hr.mono (by decide)) (pa_cons (pe_ix ix_list (pv 7) (pe_op op_add (pv 8) pe_int) (fun _ _ => rfl)) (pa_cons (pv 4) pa_nil))))
          (pss_mid (ps_if (PW.pt (pw_or (pt_cmpR op_ne (pe_callB cr_len (by rfl) T.len (by decide +kernel) (pa_cons (pv 10) pa_nil)) (pe_callB cr_len (by rfl) T.len (by decide +kernel) (pa_cons (pe_ix ix_list (pe_ix ix_list (pv 6) (pv 8) (fun _ _ => rfl)) pe_int (fun _ _ => rfl)) pa_nil)) (nomark _)) (pw_or1 (pt_cmpR op_ne (pe_callB cr_len (by rfl) T.len (by decide +kernel) (pa_cons (pv 11) pa_nil)) (pe_callB cr_len (by rfl) T.len (by decide +kernel) (pa_cons (pv 4) pa_nil)) (nomark _)))))
            (pss_one (ps_ret pe_bl))
            pss_nil)
          (pss_one (ps_if (pt_val (pe_callB (cr_any rfl) (by rfl) T.any (by decide +kernel) (pa_cons (pe_lc (own := [("_law_j", 12)]) (g := gName 12) rfl nd (pi_range1 rfl T.range (pa_cons (pe_callB cr_len (by rfl) T.len (by decide +kernel) (pa_cons (pe_ix ix_list (pe_ix ix_list (pv 6) (pv 8) (fun _ _ => rfl)) pe_int (fun _ _ => rfl)) pa_nil)) pa_nil)) (blkOk_by (N := ["_law_script", "_law_bag_here", "_law_turn", "_law_grid_here", "_law_rows", "_law_supply_here", "_law_states", "_law_told", "_law_k", "_law_spot", "_law_one", "_law_two", "_law_j", "_law_back"]) (sc := defScope s_law) (by decide +kernel)) (fun _ _ _ _ _ => pg_name (i := 12) nd rfl (Or.inl rfl)) (fun _ _ _ _ _ => (pts_one (pt_cmpR op_ne (pv 12) (pv 9) (nomark _)))) (fun _ _ _ _ _ => (pe_fn F_law_more (hr.mono (by decide)) (pa_cons (pe_ix ix_list (pv 11) (pv 12) (fun _ _ => rfl) : PE _ _ (tOp (rIxL K) _ _)) (pa_cons (pe_ix ix_list (pv 10) (pv 12) (fun _ _ => rfl) : PE _ _ (tOp (rIxL K) _ _)) pa_nil))))) pa_nil)))
            (pss_one (ps_ret pe_bl))
            pss_nil))))))))))
        (pss_one (ps_for PassesOwn.never rfl (pi_range1 rfl T.range (pa_cons pe_int pa_nil)) (pg_name (i := 8) nd rfl (by first | exact Or.inl rfl | exact Or.inr rfl))
          (pss_cons (ps_set (i := 13) nd rfl (by first | exact Or.inl rfl | exact Or.inr rfl) (pe_fn Flevel_of (hr.mono (by decide)) (pa_cons (pe_ix ix_list (pe_ix ix_list (pv 6) (pe_op op_sub pe_int (pv 8)) (fun _ _ => rfl)) pe_int (fun _ _ => rfl)) (pa_cons (pe_ix ix_list (pe_ix ix_list (pv 6) (pe_op op_sub pe_int (pv 8)) (fun _ _ => rfl)) pe_int (fun _ _ => rfl)) pa_nil))))
          (pss_one (ps_if (PW.pt (pw_or (pt_not (pt_val (pe_fn F_law_like (hr.mono (by decide)) (pa_cons (pv 13) (pa_cons (pe_ix ix_list (pv 7) (pe_op op_sub pe_int (pv 8)) (fun _ _ => rfl)) pa_nil))))) (pw_or1 (pt_val (pe_fn F_law_more (hr.mono (by decide)) (pa_cons (pe_ix ix_list (pv 7) (pe_op op_sub pe_int (pv 8)) (fun _ _ => rfl)) (pa_cons (pv 13) pa_nil)))))))
            (pss_one (ps_ret pe_bl))
            pss_nil)))))))))))))
      (pss_one (ps_ret pe_bl)))), ?_⟩
    show (_ : TS) _ [some _, none, none, none, none, none, none, none, none, none, none, none, none, none] _
    try dsimp only [cxOf, Cx.nox]
    walk_at "go"
    refine ⟨a, ns, rfl, hl, h63, fun b H1 hn e1 hb1 => ?_⟩
    walk_at "go"
    refine r_for ?_
    walk_at "go"
    refine ⟨_, rfl, by omega, by omega, ?_⟩
    refine r_loopR (fun i σ H1 => ∃ (o2 o3 o4 o5 o6 o7 o8 o9 o10 o11 o12 o13 : Option V), BagAt K H1 b ∧ σ = [some (V.ref a), some (V.ref b.a), o2, o3, o4, o5, o6, o7, o8, o9, o10, o11, o12, o13])
      ⟨_, _, _, _, _, _, _, _, _, _, _, _, hb1, rfl⟩ ?_ ?_
    · rintro i σ H0 hi ⟨o2, o3, o4, o5, o6, o7, o8, o9, o10, o11, o12, o13, hb0, rfl⟩
      walk_at "go"
      refine ⟨b, rfl, hb0, fun g H1 g0 g9 b1 n1 => ?_⟩
      walk_at "go"
      refine ⟨b, 5, g, rfl, b1, by decide, g0, g9, fun c xs rows H2 hc1 hc hrows hok hlen b2 n2 => ?_⟩
      walk_at "go"
      have G : GR g rows := ⟨g0, g9, hok, by omega⟩
      have ncb : c ≠ b.a := (b1.ne hc1).symm
      refine ⟨b, c, g, xs, rows, rfl, b2, hc, ncb, hrows, G, fun vs goal H3 asup isup q0 b3 n3 => ?_⟩
      walk_at "go"
      rename_i p1 hp1 st hst
      have hc3 : H3 c = some (.lst xs) := n3 _ _ hc (by simpa using ncb)
      have r3 := hrows.b b2 n3
      have S0 := KS.of G isup
      have m4 := (Ext.refl (S := []) (H := H3)).new (o := .lst [vs, .ref c, .int (0 - 1)]) hp1
      have hp14 : upd H3 p1 (.lst [vs, .ref c, .int (0 - 1)]) p1 = some (.lst [vs, .ref c, .int (0 - 1)]) := upd_same
      have b4 := b3.x0 m4
      have np1 : p1 ≠ b.a := (b3.ne hp1).symm
      generalize upd H3 p1 (.lst [vs, .ref c, .int (0 - 1)]) = H4 at *
      have e5 := (Ext.refl (S := []) (H := H4)).new (o := .lst [.ref p1]) hst
      have hst5 : upd H4 st (.lst [.ref p1]) st = some (.lst [.ref p1]) := upd_same
      have m5 := m4.trans e5
      have nst1 : p1 ≠ st := ne_of_none hp14 hst
      have hc4 : H4 c = some (.lst xs) := m4 _ _ hc3 fun z => nomatch z
      have nstc : c ≠ st := ne_of_none hc4 hst
      generalize upd H4 st (.lst [.ref p1]) = H5 at *
      have hc5 : H5 c = some (.lst xs) := m5 _ _ hc3 fun z => nomatch z
      refine k_lev S0 (.inl (.inl (.inl hc5))) (r3.x0 m5) (asup.x0 m5) fun v1 y X H6 L n6 a6 => ?_
      walk_at "go"
      rename_i tl htl
      have e7 := (Ext.refl (S := []) (H := H6)).new (o := .lst [v1]) htl
      have htl7 : upd H6 tl (.lst [v1]) tl = some (.lst [v1]) := upd_same
      have m46 := e5.trans n6
      have ntl1 : p1 ≠ tl := ne_of_none (m46 _ _ hp14 fun z => nomatch z) htl
      have ntlc : c ≠ tl := ne_of_none (m46 _ _ hc4 fun z => nomatch z) htl
      have ntls : st ≠ tl := ne_of_none (n6 _ _ hst5 fun z => nomatch z) htl
      have m7 := m5.trans (n6.trans e7)
      have m57 := n6.trans e7
      have m47 := e5.trans m57
      have htl4 : H4 tl = none := m46.free htl
      have a7 := a6.x0 e7
      generalize upd H6 tl (.lst [v1]) = H7 at *
      have W0 : LS K H7 b st tl g 0 0 [.ref p1] [v1] [(rows, goal)] [y] := by
        refine ⟨⟨H4, b4, hst, htl4⟩, b3.x0 m7, m57 _ _ hst5 (fun z => nomatch z), htl7, ntls, .cons ⟨p1, vs, c, 0 - 1, xs, rfl, m47 _ _ hp14 (fun z => nomatch z), m7 _ _ hc3 (fun z => nomatch z), by simp [np1, nst1, ntl1], by simp [ncb, nstc, ntlc], asup.x0 m7, r3.x0 m7⟩ .nil, Ams.cons a7 Ams.nil, rfl, rfl, fun i r hr => ?_, fun i r z hr hz => ?_, fun i z z' hz hz' => ?_⟩
        · cases i with
          | zero => cases hr; exact S0
          | succ i => cases hr
        · cases i with
          | zero => cases hr; cases hz; exact ⟨X, L⟩
          | succ i => cases hr
        · cases i <;> cases hz'
      refine r_mid (fun σ' H' => Ext [] H7 H' ∧ σ' = [some (V.ref a), some (V.ref b.a), some (V.int (0 + (i : Int))), some (V.int (g : Int)), some (V.ref c), some vs, some (V.ref st), some (V.ref tl), o8, o9, o10, o11, o12, o13]) ?_ ?_
      · walk_at "go"
        try refine r_ixL (.inl (.inl htl7)) at0 ?_
        walk_at "go"
        refine k_llev S0 (.inl (.inl (m7 _ _ hc3 fun z => nomatch z))) (r3.x0 m7) (asup.x0 m7) fun v2 y2 X2 H8 L2' n8 a8 => ?_
        obtain rfl := L.same L2'
        walk_at "go"
        refine k_like ((a7.x0 n8).eqd 3 a8) fun H9 n9 => ?_
        walk_at "run"
        exact ⟨n8.trans n9, rfl⟩
      · rintro σ' H8 ⟨n8, rfl⟩
        have W8 := W0.x0 n8
        clear W0 a7 m7 m57 m47 htl7 a6 L n6 hp14 hst5 hc3 hc4 hc5 r3 asup hrows e5 m5 m4 m46 e7
        refine r_for ?_
        walk_at "go"
        refine ⟨_, rfl, by omega, by omega, ?_⟩
        refine r_loopR (fun j σ' H' => ∃ (u4 u5 u8 u9 u10 u11 : Option V) (ss ts : List V) (rs : List (List Row × Rat)) (ys : List Rat), σ' = [some (V.ref a), some (V.ref b.a), some (V.int (0 + (i : Int))), some (V.int (g : Int)), u4, u5, some (V.ref st), some (V.ref tl), u8, u9, u10, u11, o12, o13] ∧ LS K H' b st tl g j j ss ts rs ys)
          ⟨_, _, _, _, _, _, _, _, _, _, rfl, W8⟩ ?_ ?_
        · clear W8
          rintro j σ' H0 hj ⟨u4, u5, u8, u9, u10, u11, ss, ts, rs, ys, rfl, W⟩
          have lr := W.nr
          have ly := W.ny
          have ls := W.rel.1
          have lt := W.ams.1
          obtain ⟨st1, hst1⟩ : ∃ v, ss[j]? = some v := ⟨_, List.getElem?_eq_getElem (by omega)⟩
          obtain ⟨⟨rowsj, goalj⟩, hrj, aj, sv, cj, z, xsj, rfl, haj, hcj, naj, ncj, asj, rj⟩ := W.rel.at_ hst1
          have Sj := W.ok j _ hrj
          have sqj : SqL K H0 aj [sv, .ref cj, .int z] := .inl (.inl haj)
          have ncb : cj ≠ b.a := fun z => ncj (by rw [z]; exact List.mem_cons_self)
          walk_at "go"
          refine ⟨ty_lst W.hst, ?_⟩
          walk_at "go"
          refine r_ixL (.inl (.inl W.hst)) (at_n (n := j) (by omega) hst1) ?_
          walk_at "go"
          refine r_ixL (.inl (.inl W.hst)) (at_n (n := j) (by omega) hst1) ?_
          walk_at "go"
          refine ⟨b, sv, cj, g, j, xsj, rowsj, goalj, rfl, W.bag, asj, hcj, ncb, rj, Sj, by omega, fun p c' sv' z' xs' rows' goal' H1 hp hp1 hcc hc1 r1 as1 S1 C b1 n1 => ?_⟩
          walk_at "go"
          have W1 := W.bx n1 b1
          have nw : ∀ {x : Addr}, H0 x = none → x ∉ [b.a, st, tl] := fun hx hm => by
            simp only [List.mem_cons, List.not_mem_nil, or_false] at hm
            rcases hm with rfl | rfl | rfl
            · obtain ⟨l, q⟩ := W.bag.lst; rw [q] at hx; cases hx
            · rw [W.hst] at hx; cases hx
            · rw [W.htl] at hx; cases hx
          have nc' : c' ∉ [b.a, st, tl] := by
            rcases hcc with rfl | hcc
            · exact ncj
            · exact nw hcc
          have W2 := W1.pushS (Nat.le_refl _) (r := (rows', goal')) ⟨p, sv', c', z', xs', rfl, hp1, hc1, nw hp, nc', as1, r1⟩ S1
          try refine r_app W1.hst (by omega) ?_
          have npst : p ≠ st := fun q => nw hp (by rw [q]; simp)
          have ncst : c' ≠ st := fun q => nc' (by rw [q]; simp)
          have ajst : aj ≠ st := fun q => naj (by rw [q]; simp)
          have cjst : cj ≠ st := fun q => ncj (by rw [q]; simp)
          have hp2 : upd H1 st (.lst (ss ++ [.ref p])) p = some (.lst [sv', .ref c', .int z']) := by rw [upd_ne npst]; exact hp1
          have hc2 : upd H1 st (.lst (ss ++ [.ref p])) c' = some (.lst xs') := by rw [upd_ne ncst]; exact hc1
          have r2 : RowsIs K (upd H1 st (.lst (ss ++ [.ref p]))) xs' rows' := r1.w W1.hst
          have as2 : Am K (upd H1 st (.lst (ss ++ [.ref p]))) sv' goal' := as1.w W1.hst
          have haj2 : upd H1 st (.lst (ss ++ [.ref p])) aj = some (.lst [sv, .ref cj, .int z]) := by rw [upd_ne ajst]; exact n1 _ _ haj (fun q => naj (by rw [List.mem_singleton.mp q]; simp))
          have hcj2 : upd H1 st (.lst (ss ++ [.ref p])) cj = some (.lst xsj) := by rw [upd_ne cjst]; exact n1 _ _ hcj (fun q => ncj (by rw [List.mem_singleton.mp q]; simp))
          have rj2 : RowsIs K (upd H1 st (.lst (ss ++ [.ref p]))) xsj rowsj := (rj.b W.bag n1).w W1.hst
          generalize upd H1 st (.lst (ss ++ [.ref p])) = H2 at *
          clear W1 W asj rj as1 r1 hp1 hc1 haj hcj sqj
          have sqp : SqL K H2 p [sv', .ref c', .int z'] := .inl (.inl hp2)
          have gs1 : (ss ++ [V.ref p])[j + 1]? = some (.ref p) := get_last _ _ (by omega)
          have gs0 : (ss ++ [V.ref p])[j]? = some (.ref aj) := get_init hst1
          have gr0 : (rs ++ [(rows', goal')])[j]? = some (rowsj, goalj) := get_init hrj
          have gr1 : (rs ++ [(rows', goal')])[j + 1]? = some (rows', goal') := get_last _ _ (by omega)
          walk_at "go"
          refine r_ixL (.inl (.inl W2.hst)) (at_n (n := j + 1) (by omega) gs1) ?_
          walk_at "go"
          refine ⟨ty_lst W2.htl, ?_⟩
          walk_at "go"
          refine k_lev S1 (.inl (.inl (.inl hc2))) r2 as2 fun v1 y' X' H3 L' n3 a3 => ?_
          obtain ⟨y, hy⟩ : ∃ y, ys[j]? = some y := ⟨_, List.getElem?_eq_getElem (by omega)⟩
          obtain ⟨X, L⟩ := W2.lev j _ y gr0 hy
          have yy : y' ≤ y := C.le L.lev L'.lev
          have W3 := W2.x0 n3
          walk_at "go"
          try refine r_app W3.htl (by omega) ?_
          have W4 := W3.pushT a3 gr1 L' (fun q hq => by rw [hy] at hq; cases hq; exact yy)
          have ntl : ∀ {x : Addr}, x ∉ [b.a, st, tl] → x ≠ tl := fun hx q => hx (by rw [q]; simp)
          have hc4 : upd H3 tl (.lst (ts ++ [v1])) c' = some (.lst xs') := by rw [upd_ne (ntl nc')]; exact n3 _ _ hc2 fun z => nomatch z
          have haj4 : upd H3 tl (.lst (ts ++ [v1])) aj = some (.lst [sv, .ref cj, .int z]) := by rw [upd_ne (ntl naj)]; exact n3 _ _ haj2 fun z => nomatch z
          have hcj4 : upd H3 tl (.lst (ts ++ [v1])) cj = some (.lst xsj) := by rw [upd_ne (ntl ncj)]; exact n3 _ _ hcj2 fun z => nomatch z
          have r4 : RowsIs K (upd H3 tl (.lst (ts ++ [v1]))) xs' rows' := (r2.x0 n3).w W3.htl
          have as4 : Am K (upd H3 tl (.lst (ts ++ [v1]))) sv' goal' := (as2.x0 n3).w W3.htl
          have rj4 : RowsIs K (upd H3 tl (.lst (ts ++ [v1]))) xsj rowsj := (rj2.x0 n3).w W3.htl
          have a4 : Am K (upd H3 tl (.lst (ts ++ [v1]))) v1 y' := a3.w W3.htl
          generalize upd H3 tl (.lst (ts ++ [v1])) = H4 at *
          clear W3 W2 hc2 haj2 hcj2 r2 as2 rj2 hp2 sqp a3 n3
          have sqj : SqL K H4 aj [sv, .ref cj, .int z] := .inl (.inl haj4)
          obtain ⟨v0, hv0⟩ : ∃ v, ts[j]? = some v := ⟨_, List.getElem?_eq_getElem (by omega)⟩
          have gt0 : (ts ++ [v1])[j]? = some v0 := get_init hv0
          have gt1 : (ts ++ [v1])[j + 1]? = some v1 := get_last _ _ (by omega)
          have gy0 : (ys ++ [y'])[j]? = some y := get_init hy
          have a0 : Am K H4 v0 y := W4.ams.2 j v0 y gt0 gy0
          refine r_mid (fun σ' H' => Ext [] H4 H' ∧ σ' = [some (V.ref a), some (V.ref b.a), some (V.int (0 + (i : Int))), some (V.int (g : Int)), some (V.ref c'), some sv', some (V.ref st), some (V.ref tl), some (V.int (0 + (j : Int))), some (V.int z'), u10, u11, o12, o13]) ?_ ?_
          · walk_at "go"
            refine r_ixL (.inl (.inl W4.htl)) (at_n (n := j + 1) (by omega) gt1) ?_
            walk_at "go"
            refine k_llev S1 (.inl (.inl hc4)) r4 as4 fun v2 y2 X2 H5 L2' n5 a5 => ?_
            obtain rfl := L'.same L2'
            walk_at "go"
            refine k_like ((a4.x0 n5).eqd 3 a5) fun H6 n6 => ?_
            walk_at "run"
            have n46 := n5.trans n6
            refine r_ixL (.inl (.inl (W4.x0 n46).htl)) (at_n (n := j + 1) (by omega) gt1) ?_
            walk_at "go"
            refine r_ixL (.inl (.inl (W4.x0 n46).htl)) (at_n (n := j) (by omega) gt0) ?_
            walk_at "go"
            refine ⟨v1, v0, _, y, rfl, a4.x0 n46, a0.x0 n46, L'.sz, L.sz, ?_⟩
            rw [decide_eq_false (Rat.not_lt.mpr yy)]
            walk_at "run"
            exact ⟨n46, rfl⟩
          · rintro σ' H5 ⟨n5, rfl⟩
            have W5 := W4.x0 n5
            have sqj5 : SqL K H5 aj [sv, .ref cj, .int z] := lst0 n5 sqj
            have lx' := r4.1
            have lxj := rj4.1
            walk_at "go"
            refine r_ixL (.inl (.inl W5.htl)) (at_n (n := j) (by omega) gt0) ?_
            walk_at "go"
            refine r_ixL (.inl (.inl W5.hst)) (at_n (n := j) (by omega) gs0) ?_
            walk_at "go"
            refine ⟨cj, xsj, rowsj, v0, y, X, 32768, 32768, rfl, .inl (.inl (.inl (n5 _ _ hcj4 fun z => nomatch z))), rj4.x0 n5, a0.x0 n5, L.tok Sj, fun one zo H6 hone1 hone ao n6 => ?_⟩
            walk_at "go"
            have W6 := W5.x0 n6
            have n46 := n5.trans n6
            refine r_ixL (.inl (.inl W6.htl)) (at_n (n := j + 1) (by omega) gt1) ?_
            walk_at "go"
            refine ⟨c', xs', rows', v1, y', X', 32768, 32768, rfl, .inl (.inl (.inl (n46 _ _ hc4 fun z => nomatch z))), r4.x0 n46, a4.x0 n46, L'.tok S1, fun two zt H7 htwo1 htwo at_ n7 => ?_⟩
            have W7 := W6.x0 n7
            have n47 := n46.trans n7
            have hone7 : H7 one = some (.lst zo) := n7 _ _ hone fun z => nomatch z
            have ao7 := ao.x0 n7
            have lo := ao.1
            have lw := at_.1
            rw [List.length_map] at lo lw
            have sqj7 : SqL K H7 aj [sv, .ref cj, .int z] := lst0 n47 sqj
            have hcj7 : H7 cj = some (.lst xsj) := n47 _ _ hcj4 fun z => nomatch z
            have hc7 : H7 c' = some (.lst xs') := n47 _ _ hc4 fun z => nomatch z
            refine r_mid (fun σ' H' => H' = H7 ∧ σ' = [some (V.ref a), some (V.ref b.a), some (V.int (0 + (i : Int))), some (V.int (g : Int)), some (V.ref c'), some sv', some (V.ref st), some (V.ref tl), some (V.int (0 + (j : Int))), some (V.int z'), some (V.ref one), some (V.ref two), o12, o13]) ?_ ?_
            · walk_at "go"
              try refine r_len (.inl (.inl (.inl hone7))) ?_
              walk_at "go"
              refine r_ixL (.inl (.inl W7.hst)) (at_n (n := j) (by omega) gs0) ?_
              walk_at "go"
              try refine r_len (.inl (.inl (.inl hcj7))) ?_
              walk_at "go"
              refine r_ndec (fun h => absurd (by rw [lo, lxj]) h) (fun _ => ?_)
              walk_at "run"
              try refine r_len (.inl (.inl (.inl htwo))) ?_
              walk_at "go"
              try refine r_len (.inl (.inl (.inl hc7))) ?_
              walk_at "go"
              refine r_ndec (fun h => absurd (by rw [lw, lx']) h) (fun _ => ?_)
              walk_at "run"
              exact ⟨rfl, rfl⟩
            · rintro σ' H' ⟨rfl, rfl⟩
              walk_at "go"
              refine r_ixL (.inl (.inl W7.hst)) (at_n (n := j) (by omega) gs0) ?_
              walk_at "go"
              try refine r_len (.inl (.inl (.inl hcj7))) ?_
              walk_at "go"
              have l8 : rowsj.length ≤ 8 := Sj.n
              refine ⟨_, rfl, by omega, by omega, fun D hD => ?_⟩
              refine r_lcR (n := xsj.length) (fun q H8 => ∃ m : Nat, H8 D = some (.lst (List.replicate m (V.bl false))) ∧ m ≤ q ∧ Ext [] H' H8) ⟨0, upd_same, Nat.le_refl _, Ext.refl.new hD⟩ ?_ ?_
              · rintro q H8 hq ⟨m, hm, hmq, n8⟩
                walk_at "go"
                refine ⟨rfl, ?_⟩
                walk_at "go"
                refine r_ndec (fun hne => ?_) (fun he => ?_)
                · have hrq := List.getElem?_eq_getElem (show q < rowsj.length by omega)
                  generalize rowsj[q]'(by omega) = r at hrq
                  have hrq' := C.same q r hrq (fun z => hne (by rw [← z]; simp))
                  have l1 := (List.getElem?_eq_some_iff.mp hrq').1
                  have ho := List.getElem?_eq_getElem (show q < zo.length by omega)
                  have hw := List.getElem?_eq_getElem (show q < zt.length by omega)
                  generalize zo[q]'(by omega) = vo at ho
                  generalize zt[q]'(by omega) = vt at hw
                  have avo := ao7.2 q vo (r.at_ y) ho (by rw [List.getElem?_map, hrq]; rfl)
                  have avt := at_.2 q vt (r.at_ y') hw (by rw [List.getElem?_map, hrq']; rfl)
                  have rO := (Sj.rowM r (List.mem_of_getElem? hrq)).up (Nat.dvd_trans (kDE' g j) L.dv)
                  have rT := (S1.rowM r (List.mem_of_getElem? hrq')).up (Nat.dvd_trans (kDE' g (j + 1)) L'.dv)
                  walk_at "go"
                  refine r_ixL (.inl (.inl (n8 _ _ htwo fun z => nomatch z))) (at_n (n := q) (by omega) hw) ?_
                  walk_at "go"
                  refine r_ixL (.inl (.inl (n8 _ _ hone7 fun z => nomatch z))) (at_n (n := q) (by omega) ho) ?_
                  walk_at "go"
                  refine ⟨vt, vo, r.at_ y', r.at_ y, rfl, avt.x0 n8, avo.x0 n8, sz65 (rT.at_ L'.inn) L'.X0 (x220 L'.X9) (by decide), sz65 (rO.at_ L.inn) L.X0 (x220 L.X9) (by decide), ?_⟩
                  rw [decide_eq_false (Rat.not_lt.mpr (r.mono yy))]
                  exact ⟨_, hm, by rw [List.length_replicate]; exact Nat.lt_of_le_of_lt (by omega : m ≤ 4000) (by decide), m + 1, by rw [List.replicate_succ']; exact upd_same, by omega, n8.own hD⟩
                · exact ⟨m, hm, by omega, n8⟩
              · rintro H8 ⟨m, hm, hmq, n8⟩
                walk_at "go"
                refine r_any (bs := List.replicate m false) (.inl (.inl (by rw [List.map_replicate]; exact hm))) ?_
                have ef : (List.replicate m false).any id = false := by
                  rw [List.any_eq_false]
                  intro x hx
                  rw [List.eq_of_mem_replicate hx]
                  decide
                rw [ef]
                walk_at "run"
                exact ⟨_, _, _, _, _, _, _, _, _, _, rfl, W7.x0 n8⟩
        · rintro σ' H9 ⟨u4, u5, u8, u9, u10, u11, ss, ts, rs, ys, rfl, W⟩
          walk_at "go"
          refine r_for ?_
          walk_at "go"
          refine ⟨_, rfl, by omega, by omega, ?_⟩
          refine r_loopR (fun j σ' H' => ∃ (u8 u13 : Option V), σ' = [some (V.ref a), some (V.ref b.a), some (V.int (0 + (i : Int))), some (V.int (g : Int)), u4, u5, some (V.ref st), some (V.ref tl), u8, u9, u10, u11, o12, u13] ∧ LS K H' b st tl g 7 7 ss ts rs ys)
            ⟨_, _, rfl, W⟩ ?_ ?_
          · clear W
            rintro j σ' H0 hj ⟨u8, u13, rfl, W⟩
            have lr := W.nr
            have ly := W.ny
            have ls := W.rel.1
            have lt := W.ams.1
            have hj7 : j < 7 := hj
            obtain ⟨q, hq⟩ : ∃ q, q = 6 - j := ⟨_, rfl⟩
            have eq6 : 6 - (0 + (j : Int)) = (q : Int) := by omega
            have eq7 : 7 - (0 + (j : Int)) = ((q + 1 : Nat) : Int) := by omega
            obtain ⟨st1, hst1⟩ : ∃ v, ss[q]? = some v := ⟨_, List.getElem?_eq_getElem (by omega)⟩
            obtain ⟨⟨rowsj, goalj⟩, hrj, aj, sv, cj, z, xsj, rfl, haj, hcj, naj, ncj, asj, rj⟩ := W.rel.at_ hst1
            have Sj := W.ok q _ hrj
            have sqj : SqL K H0 aj [sv, .ref cj, .int z] := .inl (.inl haj)
            obtain ⟨v0, hv0⟩ : ∃ v, ts[q]? = some v := ⟨_, List.getElem?_eq_getElem (by omega)⟩
            obtain ⟨v1, hv1⟩ : ∃ v, ts[q + 1]? = some v := ⟨_, List.getElem?_eq_getElem (by omega)⟩
            obtain ⟨y, hy, a0⟩ := W.ams.at_ hv0
            obtain ⟨y1, hy1, a1⟩ := W.ams.at_ hv1
            obtain ⟨⟨rows1, goal1⟩, hr1⟩ : ∃ r, rs[q + 1]? = some r := ⟨_, List.getElem?_eq_getElem (by omega)⟩
            obtain ⟨X, L⟩ := W.lev q _ y hrj hy
            obtain ⟨X1, L1⟩ := W.lev (q + 1) _ y1 hr1 hy1
            have yy := W.fall q y y1 hy hy1
            walk_at "go"
            refine r_ixL (.inl (.inl W.hst)) (at_n (n := q) eq6 hst1) ?_
            walk_at "go"
            refine r_ixL (.inl (.inl W.hst)) (at_n (n := q) eq6 hst1) ?_
            walk_at "go"
            refine k_lev Sj (.inl (.inl (.inl hcj))) rj asj fun v2 y2 X2 H1 L2' n1 a2 => ?_
            obtain rfl := L.same L2'
            walk_at "go"
            have W1 := W.x0 n1
            refine r_ixL (.inl (.inl W1.htl)) (at_n (n := q) eq6 hv0) ?_
            walk_at "go"
            refine k_like (a2.eqd 3 (a0.x0 n1)) fun H2 n2 => ?_
            walk_at "run"
            have W2 := W1.x0 n2
            refine r_ixL (.inl (.inl W2.htl)) (at_n (n := q + 1) eq7 hv1) ?_
            walk_at "go"
            refine ⟨v1, v2, y1, _, rfl, (a1.x0 n1).x0 n2, a2.x0 n2, L1.sz, L.sz, ?_⟩
            rw [decide_eq_false (Rat.not_lt.mpr yy)]
            walk_at "run"
            exact ⟨_, _, rfl, W2⟩
          · rintro σ' H8 ⟨u8', u13, rfl, W⟩
            exact ⟨_, _, _, _, _, _, _, _, _, _, _, _, W.bag, rfl⟩
    · rintro σ H1 ⟨o2, o3, o4, o5, o6, o7, o8, o9, o10, o11, o12, o13, hb0, rfl⟩
      walk_at "go"
      exact k _
end
end Yk

set_option maxHeartbeats 0
namespace YkHead
open PySem PySem.Spec PyProof.Rows L2 Yk
def dD (x : Str) (i : Nat) : He.DefD := ⟨(x, none), x, x, defArgs (top i), defBody (top i), defScope (top i), [], []⟩
def fn0 : List He.DefD := [dD "plus" 8, dD "minus" 9, dD "_added" 10, dD "times" 11, dD "over" 12, dD "_product" 13, dD "compare" 14, dD "smallest" 15, dD "largest" 16, dD "share" 18, dD "total" 19, dD "level_of" 21, dD "allotments" 22, dD "_least_reaching" 23, dD "_breaks" 24, dD "_first_reaching" 25, dD "_on_line" 26, dD "_ascending" 27, dD "_merged" 28, dD "_law_bag" 30]
def fn1 : List He.DefD := [dD "_law_draw" 31, dD "_law_of" 32, dD "_law_like" 33, dD "_law_pair" 34, dD "_law_more" 35, dD "_law_add" 36, dD "_law_sub" 37, dD "_law_mul" 38, dD "_law_div" 39, dD "_law_min" 40, dD "_law_max" 41, dD "_law_sum" 42, dD "_law_bit" 43, dD "_law_share" 44, dD "_law_total" 45, dD "_law_breaks" 46, dD "_law_level" 47, dD "_law_grid" 48, dD "_law_fine" 49, dD "_law_wish" 50]
def fn2 : List He.DefD := [dD "_law_wishes" 51, dD "_law_supply" 52, dD "_law_wider" 53, dD "_law_changed" 54, dD "law" 55]
def fn : List He.DefD := fn0 ++ fn1 ++ fn2
def fa0 : List He.Fa := [.glo "plus", .glo "minus", .glo "_added", .glo "times", .glo "over", .glo "_product", .glo "compare", .glo "smallest", .glo "largest", .glo "share", .glo "total", .glo "level_of", .glo "allotments", .glo "_least_reaching", .glo "_breaks", .glo "_first_reaching", .glo "_on_line", .glo "_ascending", .glo "_merged", .glo "_law_bag"]
def fa1 : List He.Fa := [.glo "_law_draw", .glo "_law_of", .glo "_law_like", .glo "_law_pair", .glo "_law_more", .glo "_law_add", .glo "_law_sub", .glo "_law_mul", .glo "_law_div", .glo "_law_min", .glo "_law_max", .glo "_law_sum", .glo "_law_bit", .glo "_law_share", .glo "_law_total", .glo "_law_breaks", .glo "_law_level", .glo "_law_grid", .glo "_law_fine", .glo "_law_wish"]
def fa2 : List He.Fa := [.glo "_law_wishes", .glo "_law_supply", .glo "_law_wider", .glo "_law_changed", .glo "law", .free "ValueError", .free "all", .free "any", .free "bool", .free "divmod", .free "int", .free "isinstance", .free "len", .free "list", .free "max", .free "min", .free "range", .free "str", .free "sum", .free "tuple"]
def fa3 : List He.Fa := [.free "zip"]
def fa : List He.Fa := fa0 ++ fa1 ++ fa2 ++ fa3
def ex (K : PySem.W.Frag) : Bool := He.eqO (PySem.W.nsIn K mainGlobals "gcd") (some (some (.builtin "math.gcd"))) && He.eqO (PySem.W.nsIn K mainGlobals "ZERO") (some (some (.ref (He.ga K "ZERO")))) && He.tupB K "ZERO" [.int 0, .int 1] && He.eqO (PySem.W.nsIn K mainGlobals "TOP") (some (some (.ref (He.ga K "TOP")))) && He.tupB K "TOP" [.int 1000, .int 1]
abbrev R : PySem.W.OpenRow := PySem.W.OpenLaw.row PySem.Challenge.rw_bandheld_k04_whole_levels_fall
abbrev hk : PySem.W.Hook := He.hookX 4 fa fn [] [] ex
def ob (s : PySem.W.SharedT) : He.AlX := He.obsX 4 fa fn [] [] ex (HandSHeadRun.getT s)
theorem ob_eq (s : PySem.W.SharedT) : ob s = hk.obs s.abs := He.obsX_eq (HandSHeadRun.getT_eq s)
def loose0 : List Str := ["plus", "minus", "_added", "times", "over", "_product", "compare", "smallest", "largest", "share", "total", "level_of", "allotments", "_least_reaching", "_breaks", "_first_reaching", "_on_line", "_ascending", "_merged", "_law_bag"]
def loose1 : List Str := ["_law_draw", "_law_of", "_law_like", "_law_pair", "_law_more", "_law_add", "_law_sub", "_law_mul", "_law_div", "_law_min", "_law_max", "_law_sum", "_law_bit", "_law_share", "_law_total", "_law_breaks", "_law_level", "_law_grid", "_law_fine", "_law_wish"]
def loose2 : List Str := ["_law_wishes", "_law_supply", "_law_wider", "_law_changed", "BandError", "BadAmount", "Short", "ZERO", "TOP"]
def loose : List Str := loose0 ++ loose1 ++ loose2
theorem run (w : World) : HandSHeadRun.RunEqI R (PySem.W.view R.prog [0, 55]) hk ob 8000 loose w := by
  unfold HandSHeadRun.RunEqI
  kernel_rfl
theorem facts {P : Program} {w : World} {K : PySem.W.Frag} {h : Heap} {mg : Str → Option Value} {f : Addr} (X : K.In h) (G : h.Ns mainGlobals mg) (hfa : mg ("law" : Str) = some (.ref f)) (c0 : He.SaysX fa fn [] [] ex w h K) :
    ∃ fd : FuncData, (∀ (s : Shared) (v : Value), BindsTo s fd ⟨[v], []⟩ [("_law_script", v)]) ∧ ∀ base : Heap, K.In base → base.Ns mainGlobals mg → FnOk P w K mg base CX0 12 f fd ["_law_script"] (spLaw04 K) := by
  have c : He.SaysD fa fn K := c0.t.d
  have m : ex K = true := c0.more
  unfold ex at m
  try simp only [Bool.and_eq_true] at m
  have T0 : Bt mg := ⟨(He.free_ok X G (c.fact 50 (f := .free "int") rfl)), (He.free_ok X G (c.fact 52 (f := .free "len") rfl)), (He.free_ok X G (c.fact 53 (f := .free "list") rfl)), (He.free_ok X G (c.fact 59 (f := .free "tuple") rfl)), (He.free_ok X G (c.fact 57 (f := .free "str") rfl)), (He.free_ok X G (c.fact 48 (f := .free "bool") rfl)), (He.free_ok X G (c.fact 54 (f := .free "max") rfl)), (He.free_ok X G (c.fact 55 (f := .free "min") rfl)), (He.free_ok X G (c.fact 46 (f := .free "all") rfl)), (He.free_ok X G (c.fact 47 (f := .free "any") rfl)), (He.free_ok X G (c.fact 58 (f := .free "sum") rfl)), (He.free_ok X G (c.fact 51 (f := .free "isinstance") rfl)), (He.free_ok X G (c.fact 60 (f := .free "zip") rfl)), (He.free_ok X G (c.fact 56 (f := .free "range") rfl)), (He.free_ok X G (c.fact 49 (f := .free "divmod") rfl))⟩
  have T1 : Bg mg := ⟨T0, PySem.W.mg_of X G (He.eqO_ok m.1.1.1.1)⟩
  have tup_ZERO : ∃ z, mg "ZERO" = some (.ref z) ∧ ∀ H, SqT K H z [.int 0, .int 1] := ⟨He.ga K "ZERO", PySem.W.mg_of X G (He.eqO_ok m.1.1.1.2), fun H => He.tupB_ok m.1.1.2 H⟩
  have tup_TOP : ∃ z, mg "TOP" = some (.ref z) ∧ ∀ H, SqT K H z [.int 1000, .int 1] := ⟨He.ga K "TOP", PySem.W.mg_of X G (He.eqO_ok m.1.2), fun H => He.tupB_ok m.2 H⟩
  obtain ⟨d_added, D_added⟩ := c.def_ 2 (d := dD "_added" 10) rfl
  obtain ⟨d_product, D_product⟩ := c.def_ 5 (d := dD "_product" 13) rfl
  obtain ⟨d_times, D_times⟩ := c.def_ 3 (d := dD "times" 11) rfl
  obtain ⟨d_compare, D_compare⟩ := c.def_ 6 (d := dD "compare" 14) rfl
  obtain ⟨d_minus, D_minus⟩ := c.def_ 1 (d := dD "minus" 9) rfl
  obtain ⟨d_over, D_over⟩ := c.def_ 4 (d := dD "over" 12) rfl
  obtain ⟨d_plus, D_plus⟩ := c.def_ 0 (d := dD "plus" 8) rfl
  obtain ⟨d_smallest, D_smallest⟩ := c.def_ 7 (d := dD "smallest" 15) rfl
  obtain ⟨d_largest, D_largest⟩ := c.def_ 8 (d := dD "largest" 16) rfl
  obtain ⟨d_law_pair, D_law_pair⟩ := c.def_ 23 (d := dD "_law_pair" 34) rfl
  obtain ⟨d_law_more, D_law_more⟩ := c.def_ 24 (d := dD "_law_more" 35) rfl
  obtain ⟨d_law_add, D_law_add⟩ := c.def_ 25 (d := dD "_law_add" 36) rfl
  obtain ⟨d_law_mul, D_law_mul⟩ := c.def_ 27 (d := dD "_law_mul" 38) rfl
  obtain ⟨d_law_div, D_law_div⟩ := c.def_ 28 (d := dD "_law_div" 39) rfl
  obtain ⟨d_law_min, D_law_min⟩ := c.def_ 29 (d := dD "_law_min" 40) rfl
  obtain ⟨d_law_max, D_law_max⟩ := c.def_ 30 (d := dD "_law_max" 41) rfl
  obtain ⟨d_law_sum, D_law_sum⟩ := c.def_ 31 (d := dD "_law_sum" 42) rfl
  obtain ⟨d_law_draw, D_law_draw⟩ := c.def_ 20 (d := dD "_law_draw" 31) rfl
  obtain ⟨d_law_bag, D_law_bag⟩ := c.def_ 19 (d := dD "_law_bag" 30) rfl
  obtain ⟨d_law_of, D_law_of⟩ := c.def_ 21 (d := dD "_law_of" 32) rfl
  obtain ⟨d_law_bit, D_law_bit⟩ := c.def_ 32 (d := dD "_law_bit" 43) rfl
  obtain ⟨d_law_like, D_law_like⟩ := c.def_ 22 (d := dD "_law_like" 33) rfl
  obtain ⟨d_share, D_share⟩ := c.def_ 9 (d := dD "share" 18) rfl
  obtain ⟨d_total, D_total⟩ := c.def_ 10 (d := dD "total" 19) rfl
  obtain ⟨d_merged, D_merged⟩ := c.def_ 18 (d := dD "_merged" 28) rfl
  obtain ⟨d_ascending, D_ascending⟩ := c.def_ 17 (d := dD "_ascending" 27) rfl
  obtain ⟨d_breaks, D_breaks⟩ := c.def_ 14 (d := dD "_breaks" 24) rfl
  obtain ⟨d_first_reaching, D_first_reaching⟩ := c.def_ 15 (d := dD "_first_reaching" 25) rfl
  obtain ⟨d_on_line, D_on_line⟩ := c.def_ 16 (d := dD "_on_line" 26) rfl
  obtain ⟨d_least_reaching, D_least_reaching⟩ := c.def_ 13 (d := dD "_least_reaching" 23) rfl
  obtain ⟨d_level_of, D_level_of⟩ := c.def_ 11 (d := dD "level_of" 21) rfl
  obtain ⟨d_law_sub, D_law_sub⟩ := c.def_ 26 (d := dD "_law_sub" 37) rfl
  obtain ⟨d_law_share, D_law_share⟩ := c.def_ 33 (d := dD "_law_share" 44) rfl
  obtain ⟨d_law_total, D_law_total⟩ := c.def_ 34 (d := dD "_law_total" 45) rfl
  obtain ⟨d_law_breaks, D_law_breaks⟩ := c.def_ 35 (d := dD "_law_breaks" 46) rfl
  obtain ⟨d_law_level, D_law_level⟩ := c.def_ 36 (d := dD "_law_level" 47) rfl
  obtain ⟨d_law_grid, D_law_grid⟩ := c.def_ 37 (d := dD "_law_grid" 48) rfl
  obtain ⟨d_law_fine, D_law_fine⟩ := c.def_ 38 (d := dD "_law_fine" 49) rfl
  obtain ⟨d_law_wish, D_law_wish⟩ := c.def_ 39 (d := dD "_law_wish" 50) rfl
  obtain ⟨d_law_wishes, D_law_wishes⟩ := c.def_ 40 (d := dD "_law_wishes" 51) rfl
  obtain ⟨d_law_supply, D_law_supply⟩ := c.def_ 41 (d := dD "_law_supply" 52) rfl
  obtain ⟨d_allotments, D_allotments⟩ := c.def_ 12 (d := dD "allotments" 22) rfl
  obtain ⟨d_law_wider, D_law_wider⟩ := c.def_ 42 (d := dD "_law_wider" 53) rfl
  obtain ⟨d_law_changed, D_law_changed⟩ := c.def_ 43 (d := dD "_law_changed" 54) rfl
  obtain ⟨d_law, D_law⟩ := c.def_ 44 (d := dD "law" 55) rfl
  have e := hfa.symm.trans (He.glo_ok X G (c.fact 44 (f := .glo "law") rfl))
  cases e
  refine ⟨d_law, fun s v => (FunD.bindsA (ps := ["_law_script"]) D_law fun _ _ _ _ _ _ us hl => match us, hl with | [_], _ => rfl) s [v] rfl, fun base _ _ => ?_⟩
  have F_added := f_added (P := P) (w := w) (base := base) D_added (He.glo_ok X G (c.fact 2 (f := .glo "_added") rfl)) T1
  have F_product := f_product (P := P) (w := w) (base := base) D_product (He.glo_ok X G (c.fact 5 (f := .glo "_product") rfl)) T1
  have Ftimes := f_times (P := P) (w := w) (base := base) D_times (He.glo_ok X G (c.fact 3 (f := .glo "times") rfl)) F_product
  have Fcompare := f_compare (P := P) (w := w) (base := base) D_compare (He.glo_ok X G (c.fact 6 (f := .glo "compare") rfl)) 
  have Fminus := f_minus (P := P) (w := w) (base := base) D_minus (He.glo_ok X G (c.fact 1 (f := .glo "minus") rfl)) Fcompare F_added
  have Fover := f_over (P := P) (w := w) (base := base) D_over (He.glo_ok X G (c.fact 4 (f := .glo "over") rfl)) tup_ZERO F_product
  have Fplus := f_plus (P := P) (w := w) (base := base) D_plus (He.glo_ok X G (c.fact 0 (f := .glo "plus") rfl)) tup_ZERO F_added
  have Fsmallest := f_smallest (P := P) (w := w) (base := base) D_smallest (He.glo_ok X G (c.fact 7 (f := .glo "smallest") rfl)) Fcompare
  have Flargest := f_largest (P := P) (w := w) (base := base) D_largest (He.glo_ok X G (c.fact 8 (f := .glo "largest") rfl)) Fcompare
  have F_law_pair := f_law_pair (P := P) (w := w) (base := base) D_law_pair (He.glo_ok X G (c.fact 23 (f := .glo "_law_pair") rfl)) T0
  have F_law_more := f_law_more (P := P) (w := w) (base := base) D_law_more (He.glo_ok X G (c.fact 24 (f := .glo "_law_more") rfl)) 
  have F_law_add := f_law_add (P := P) (w := w) (base := base) D_law_add (He.glo_ok X G (c.fact 25 (f := .glo "_law_add") rfl)) F_law_pair
  have F_law_mul := f_law_mul (P := P) (w := w) (base := base) D_law_mul (He.glo_ok X G (c.fact 27 (f := .glo "_law_mul") rfl)) F_law_pair
  have F_law_div := f_law_div (P := P) (w := w) (base := base) D_law_div (He.glo_ok X G (c.fact 28 (f := .glo "_law_div") rfl)) F_law_pair
  have F_law_min := f_law_min (P := P) (w := w) (base := base) D_law_min (He.glo_ok X G (c.fact 29 (f := .glo "_law_min") rfl)) F_law_more
  have F_law_max := f_law_max (P := P) (w := w) (base := base) D_law_max (He.glo_ok X G (c.fact 30 (f := .glo "_law_max") rfl)) F_law_more
  have F_law_sum := f_law_sum (P := P) (w := w) (base := base) D_law_sum (He.glo_ok X G (c.fact 31 (f := .glo "_law_sum") rfl)) F_law_add
  have F_law_draw := f_law_draw (P := P) (w := w) (base := base) D_law_draw (He.glo_ok X G (c.fact 20 (f := .glo "_law_draw") rfl)) T0
  have F_law_bag := f_law_bag (P := P) (w := w) (base := base) D_law_bag (He.glo_ok X G (c.fact 19 (f := .glo "_law_bag") rfl)) T0
  have F_law_of := f_law_of (P := P) (w := w) (base := base) D_law_of (He.glo_ok X G (c.fact 21 (f := .glo "_law_of") rfl)) T0 F_law_draw
  have F_law_bit := f_law_bit (P := P) (w := w) (base := base) D_law_bit (He.glo_ok X G (c.fact 32 (f := .glo "_law_bit") rfl)) F_law_draw F_law_of F_law_pair
  have F_law_like0 : Fn P w K mg base 0 "_law_like" (spLike K 0) := fn_none D_law_like (He.glo_ok X G (c.fact 22 (f := .glo "_law_like") rfl))
  have F_law_like1 := f_law_like D_law_like (He.glo_ok X G (c.fact 22 (f := .glo "_law_like") rfl)) T0 0 F_law_like0
  have F_law_like2 := f_law_like D_law_like (He.glo_ok X G (c.fact 22 (f := .glo "_law_like") rfl)) T0 1 F_law_like1
  have F_law_like3 := f_law_like D_law_like (He.glo_ok X G (c.fact 22 (f := .glo "_law_like") rfl)) T0 2 F_law_like2
  have F_law_like4 := f_law_like D_law_like (He.glo_ok X G (c.fact 22 (f := .glo "_law_like") rfl)) T0 3 F_law_like3
  have F_law_like5 := f_law_like D_law_like (He.glo_ok X G (c.fact 22 (f := .glo "_law_like") rfl)) T0 4 F_law_like4
  have F_law_like := F_law_like5
  have Fshare := f_share (P := P) (w := w) (base := base) D_share (He.glo_ok X G (c.fact 9 (f := .glo "share") rfl)) tup_ZERO Ftimes Fsmallest Flargest
  have Ftotal := f_total (P := P) (w := w) (base := base) D_total (He.glo_ok X G (c.fact 10 (f := .glo "total") rfl)) Fshare Fplus Fsmallest
  have F_merged := f_merged (P := P) (w := w) (base := base) D_merged (He.glo_ok X G (c.fact 18 (f := .glo "_merged") rfl)) T0 Fcompare
  have F_ascending0 : Fn P w K mg base 2 "_ascending" (spAsc K 0) := fn_none D_ascending (He.glo_ok X G (c.fact 17 (f := .glo "_ascending") rfl))
  have F_ascending1 := f_ascending D_ascending (He.glo_ok X G (c.fact 17 (f := .glo "_ascending") rfl)) T0 0 F_ascending0 F_merged
  have F_ascending2 := f_ascending D_ascending (He.glo_ok X G (c.fact 17 (f := .glo "_ascending") rfl)) T0 1 F_ascending1 F_merged
  have F_ascending3 := f_ascending D_ascending (He.glo_ok X G (c.fact 17 (f := .glo "_ascending") rfl)) T0 2 F_ascending2 F_merged
  have F_ascending4 := f_ascending D_ascending (He.glo_ok X G (c.fact 17 (f := .glo "_ascending") rfl)) T0 3 F_ascending3 F_merged
  have F_ascending5 := f_ascending D_ascending (He.glo_ok X G (c.fact 17 (f := .glo "_ascending") rfl)) T0 4 F_ascending4 F_merged
  have F_ascending6 := f_ascending D_ascending (He.glo_ok X G (c.fact 17 (f := .glo "_ascending") rfl)) T0 5 F_ascending5 F_merged
  have F_ascending := F_ascending6
  have F_breaks := f_breaks (P := P) (w := w) (base := base) D_breaks (He.glo_ok X G (c.fact 14 (f := .glo "_breaks") rfl)) T0 tup_ZERO Fover Fcompare F_ascending
  have F_first_reaching := f_first_reaching (P := P) (w := w) (base := base) D_first_reaching (He.glo_ok X G (c.fact 15 (f := .glo "_first_reaching") rfl)) T0 Ftotal Fcompare
  have F_on_line := f_on_line (P := P) (w := w) (base := base) D_on_line (He.glo_ok X G (c.fact 16 (f := .glo "_on_line") rfl)) Ftotal Fminus Fover Ftimes Fplus
  have F_least_reaching := f_least_reaching (P := P) (w := w) (base := base) D_least_reaching (He.glo_ok X G (c.fact 13 (f := .glo "_least_reaching") rfl)) T0 F_breaks F_first_reaching F_on_line
  have Olevel_of := f_level_of (P := P) (w := w) (base := base) D_level_of (He.glo_ok X G (c.fact 11 (f := .glo "level_of") rfl)) tup_TOP F_least_reaching
  have Flevel_of := fn_of_ok D_level_of (He.glo_ok X G (c.fact 11 (f := .glo "level_of") rfl)) Olevel_of (fun _ _ _ _ _ _ us hl => match us, hl with | [_, _], _ => rfl)
  have Slevel_of := fs_of_ok D_level_of (He.glo_ok X G (c.fact 11 (f := .glo "level_of") rfl)) Olevel_of (fun _ _ _ _ _ _ _ _ => rfl)
  have F_law_sub := f_law_sub (P := P) (w := w) (base := base) D_law_sub (He.glo_ok X G (c.fact 26 (f := .glo "_law_sub") rfl)) F_law_pair
  have F_law_share := f_law_share (P := P) (w := w) (base := base) D_law_share (He.glo_ok X G (c.fact 33 (f := .glo "_law_share") rfl)) F_law_pair F_law_min F_law_max
  have F_law_total := f_law_total (P := P) (w := w) (base := base) D_law_total (He.glo_ok X G (c.fact 34 (f := .glo "_law_total") rfl)) F_law_share F_law_min F_law_sum
  have F_law_breaks := f_law_breaks (P := P) (w := w) (base := base) D_law_breaks (He.glo_ok X G (c.fact 35 (f := .glo "_law_breaks") rfl)) F_law_pair F_law_more
  have F_law_level := f_law_level (P := P) (w := w) (base := base) D_law_level (He.glo_ok X G (c.fact 36 (f := .glo "_law_level") rfl)) F_law_total F_law_more F_law_breaks F_law_sub F_law_mul F_law_div F_law_add
  have F_law_grid := f_law_grid (P := P) (w := w) (base := base) D_law_grid (He.glo_ok X G (c.fact 37 (f := .glo "_law_grid") rfl)) F_law_draw F_law_of
  have F_law_fine := f_law_fine (P := P) (w := w) (base := base) D_law_fine (He.glo_ok X G (c.fact 38 (f := .glo "_law_fine") rfl)) F_law_draw F_law_of F_law_pair F_law_bit
  have F_law_wish := f_law_wish (P := P) (w := w) (base := base) D_law_wish (He.glo_ok X G (c.fact 39 (f := .glo "_law_wish") rfl)) F_law_draw F_law_of F_law_bit F_law_fine F_law_more F_law_add
  have F_law_wishes := f_law_wishes (P := P) (w := w) (base := base) D_law_wishes (He.glo_ok X G (c.fact 40 (f := .glo "_law_wishes") rfl)) T0 F_law_draw F_law_of F_law_bit F_law_fine F_law_wish
  have F_law_supply := f_law_supply (P := P) (w := w) (base := base) D_law_supply (He.glo_ok X G (c.fact 41 (f := .glo "_law_supply") rfl)) F_law_draw F_law_of F_law_bit F_law_fine F_law_add F_law_mul F_law_total F_law_breaks
  have Oallotments := f_allotments (P := P) (w := w) (base := base) D_allotments (He.glo_ok X G (c.fact 12 (f := .glo "allotments") rfl)) Fshare Fsmallest
  have Fallotments := fn_of_ok D_allotments (He.glo_ok X G (c.fact 12 (f := .glo "allotments") rfl)) Oallotments (fun _ _ _ _ _ _ us hl => match us, hl with | [_, _], _ => rfl)
  have Sallotments := fs_of_ok D_allotments (He.glo_ok X G (c.fact 12 (f := .glo "allotments") rfl)) Oallotments (fun _ _ _ _ _ _ _ _ => rfl)
  have F_law_wider := f_law_wider (P := P) (w := w) (base := base) D_law_wider (He.glo_ok X G (c.fact 42 (f := .glo "_law_wider") rfl)) F_law_of F_law_wish F_law_bit F_law_fine F_law_add F_law_sub F_law_mul
  have F_law_changed := f_law_changed (P := P) (w := w) (base := base) D_law_changed (He.glo_ok X G (c.fact 43 (f := .glo "_law_changed") rfl)) T0 F_law_draw F_law_of F_law_wish F_law_bit F_law_fine F_law_add F_law_mul F_law_wider
  exact f_law (P := P) (w := w) (base := base) D_law (He.glo_ok X G (c.fact 44 (f := .glo "law") rfl)) T0 F_law_bag F_law_grid F_law_wishes F_law_supply F_law_level Flevel_of F_law_like F_law_changed Fallotments F_law_more
end YkHead
open PySem PySem.W PySem.Calls PyProof.Rows in
theorem PySem.Challenge.cw_bandheld_k04_whole_levels_fall_holds : PySem.Challenge.rw_bandheld_k04_whole_levels_fall.Holds := by
  w_on; o_law
  refine HandSHeadRun.head_imp (r := OpenLaw.row PySem.Challenge.rw_bandheld_k04_whole_levels_fall) (q := view (OpenLaw.row PySem.Challenge.rw_bandheld_k04_whole_levels_fall).prog [0, 55]) (H := YkHead.hk) (ob := YkHead.ob) (M := 8000) (loose := YkHead.loose) (d := HandSHeadRun.topDef (OpenLaw.row PySem.Challenge.rw_bandheld_k04_whole_levels_fall).prog 55) (kwd := []) YkHead.ob_eq YkHead.run
    (by kernel_rfl) (by kernel_rfl) (by kernel_rfl) (by rfl) (by first | assumption | decide +kernel) (by decide +kernel) ⟨rfl, rfl, rfl, rfl, rfl, by decide +kernel⟩ ?hw ?hc
  case hw => w_witness2
  case hc =>
    refine L2.walk_ofE (l := PySem.Challenge.rw_bandheld_k04_whole_levels_fall) (n := 63) (k := 12) (x := "_law_script") (CX := L2.CX0) rfl (by decide) (by kernel_rfl) ⟨rfl, by decide, by decide⟩ ?F (fun _ _ _ _ z => z)
    intro w mg fa h Y G hmg0
    obtain ⟨K, KX, c⟩ := Y
    have hmg : mg ("law" : PySem.Str) = some (.ref fa) := by
      have e : (HandSHeadRun.topDef (OpenLaw.row PySem.Challenge.rw_bandheld_k04_whole_levels_fall).prog 55).name = ("law" : PySem.Str) := by kernel_rfl
      rw [← e]
      exact hmg0
    obtain ⟨fd, hb, hF⟩ := YkHead.facts (P := (PySem.Challenge.rw_bandheld_k04_whole_levels_fall).prog) (w := w) KX G hmg c
    exact ⟨K, fd, Yk.spLaw04 K, KX, hb, fun H a ns hl _ hS => ⟨a, ns, rfl, hS, hl, fun _ => rfl⟩, hF⟩

