import PyProof.Rows.All
import Wide.All
import OpenK.AllK
import Wide.FinOn
import HandS.ForMost
import HandS.Defaults
import HandS.Star
import HandS.Gcd
import HandS.Wide
import HandS.HeadHook4
import HandS.NoneIn
import HandS.IsInst
import HandS.Zip
import HandS.HeadEnd
import HandS.Head3
import HandS.Property
import HandS.Text
import HandS.StrMore
import HandS.FStr
import HandS.Style
import HandS.WideBits
import PySem.Challenge.RW_bandheld_k71_whole_amounts_obey
set_option Elab.async false
set_option linter.all false
set_option maxRecDepth 100000
set_option maxHeartbeats 1000000
/-! The layer over the hand layer: what is kept from heap to heap, amounts as rational numbers, readings step by step. -/
namespace Yk
open PySem PySem.Spec PyProof.Rows L2

/-! ### what is kept: all that is tracked, but what stands at S -/
def Ext (S : List Addr) (H H' : Hp) : Prop := ∀ a o, H a = some o → a ∉ S → H' a = some o
theorem Ext.refl {S : List Addr} {H : Hp} : Ext S H H := fun _ _ h _ => h
theorem Ext.trans {S : List Addr} {H H1 H2 : Hp} (a : Ext S H H1) (b : Ext S H1 H2) : Ext S H H2 := fun x o h n => b x o (a x o h n) n
theorem Ext.mono {S T : List Addr} {H H1 : Hp} (a : Ext S H H1) (h : ∀ x ∈ S, x ∈ T) : Ext T H H1 := fun x o e n => a x o e fun z => n (h x z)
theorem Ext.of0 {T : List Addr} {H H1 : Hp} (a : Ext [] H H1) : Ext T H H1 := a.mono fun _ z => nomatch z
theorem Ext.new {S : List Addr} {H H1 : Hp} {p : Addr} {o : HO} (e : Ext S H H1) (h : H1 p = none) : Ext S H (upd H1 p o) := fun a u ha n => by
  have h1 := e a u ha n
  rw [upd_ne (ne_of_none h1 h)]
  exact h1
theorem Ext.at_ {S : List Addr} {H H1 : Hp} {p : Addr} {o : HO} (e : Ext S H H1) (h : p ∈ S) : Ext S H (upd H1 p o) := fun a u ha n => by
  have h1 : a ≠ p := fun z => n (by rw [z]; exact h)
  rw [upd_ne h1]
  exact e a u ha n
/-- what is new to H may change -/
theorem Ext.own {S : List Addr} {H H1 : Hp} {p : Addr} {o : HO} (e : Ext S H H1) (h : H p = none) : Ext S H (upd H1 p o) := fun a u ha n => by
  rw [upd_ne (ne_of_none ha h)]
  exact e a u ha n
theorem Ext.free {H H1 : Hp} (e : Ext [] H H1) {p : Addr} (h : H1 p = none) : H p = none := by
  cases h1 : H p with
  | none => rfl
  | some o =>
    rw [e p o h1 (fun z => nomatch z)] at h
    cases h
theorem Ext.freeS {S : List Addr} {H H1 : Hp} (e : Ext S H H1) {p : Addr} (h : H1 p = none) (hs : ∀ a ∈ S, H1 a ≠ none) : H p = none := by
  cases h1 : H p with
  | none => rfl
  | some o =>
    rw [e p o h1 (fun z => hs p z h)] at h
    cases h

/-- the tuple at a, the list at a, carried on -/
theorem tupX {S : List Addr} {K : PySem.W.Frag} {H H1 : Hp} {a : Addr} {xs : List V} (e : Ext S H H1) (h : SqT K H a xs) (hs : ∀ b ∈ S, ∃ l, H b = some (.lst l)) : SqT K H1 a xs := by
  rcases h with (h | ⟨o, h⟩) | h
  · exact .inl (.inl (e a _ h fun z => by obtain ⟨l, q⟩ := hs a z; rw [h] at q; cases q))
  · exact .inl (.inr ⟨o, e a _ h fun z => by obtain ⟨l, q⟩ := hs a z; rw [h] at q; cases q⟩)
  · exact .inr h
theorem tup0 {K : PySem.W.Frag} {H H1 : Hp} {a : Addr} {xs : List V} (e : Ext [] H H1) (h : SqT K H a xs) : SqT K H1 a xs := tupX e h fun _ z => nomatch z
theorem tupN {K : PySem.W.Frag} {H : Hp} {a p : Addr} {o : HO} {xs : List V} (h : SqT K H a xs) (hp : H p = none) : SqT K (upd H p o) a xs := tup0 (Ext.refl.new hp) h
theorem tupW {K : PySem.W.Frag} {H : Hp} {a p : Addr} {l l' : List V} {xs : List V} (h : SqT K H a xs) (hp : H p = some (.lst l)) : SqT K (upd H p (.lst l')) a xs :=
  tupX (S := [p]) (Ext.refl.at_ List.mem_cons_self) h fun b hb => by rw [List.mem_singleton.mp hb]; exact ⟨l, hp⟩
theorem tupS {K : PySem.W.Frag} {H : Hp} {p : Addr} {xs : List V} : SqT K (upd H p (.tup xs)) p xs := .inl (.inl upd_same)
theorem lstX {S : List Addr} {K : PySem.W.Frag} {H H1 : Hp} {a : Addr} {xs : List V} (e : Ext S H H1) (h : SqL K H a xs) (hs : a ∉ S) : SqL K H1 a xs := by
  rcases h with (h | ⟨o, h⟩) | h
  · exact .inl (.inl (e a _ h hs))
  · exact .inl (.inr ⟨o, e a _ h hs⟩)
  · exact .inr h
theorem lst0 {K : PySem.W.Frag} {H H1 : Hp} {a : Addr} {xs : List V} (e : Ext [] H H1) (h : SqL K H a xs) : SqL K H1 a xs := lstX e h fun z => nomatch z
theorem lstN {K : PySem.W.Frag} {H : Hp} {a p : Addr} {o : HO} {xs : List V} (h : SqL K H a xs) (hp : H p = none) : SqL K (upd H p o) a xs := lst0 (Ext.refl.new hp) h
theorem lstS {K : PySem.W.Frag} {H : Hp} {p : Addr} {xs : List V} : SqL K (upd H p (.lst xs)) p xs := .inl (.inl upd_same)

/-! ### a def by its name -/
section
variable (P : Program) (w : World) (K : PySem.W.Frag) (mg : Str → Option Value) (base : Heap)
structure Fn (k : Nat) (x : Str) (sp : Sp) : Prop where
  run : ∃ f, mg x = some (.ref f) ∧ PySem.W.keepIn K (.ref f) = true ∧ FnR P w K mg base CX0 k f sp
end
section
variable {X : Cx} {k : Nat} {sp : Sp} {x : Str} {p pos : Pos} {e : Expr} {es : List Expr} {t : TA}
def tR (sp : Sp) (t : TA) : TE := fun σ H Q => t σ H fun vs H1 => sp vs H1 Q E0
theorem pe_fn (F : Fn X.prog X.w X.K X.mg X.base k x sp) (hr : Room k X.A) (ha : PA X (e :: es) t) (hg : Gl X x := by rfl) (hdb : (x == ("__debug__" : Str)) = false := by decide)
    (hx : Passes CX0 X E0 := by exact pass0)
    (he : starEach (e :: es) X.env = (false, eval e X.env) :: starEach es X.env := by rfl) (hpl : (backTo pos (starEach es X.env)).any (·.1) = false := by rfl) :
    PE X (.Call (.Name x p) (e :: es) [] pos) (tR sp t) := by
  obtain ⟨f, hm, hk, F⟩ := F.run
  refine ⟨fun pins s σ H Q I h => ?_⟩
  refine wpAny_Call_Name_kw (ld_glob I hg hm ?_ hdb)
  refine PySem.W.callWith_K (h₀ := X.base) I.ok.mod.kin hk (thn (ha.run pos pins s σ H _ I h) fun us s1 ⟨vs, H1, I1, r, q⟩ => ⟨I1.kIn, ?_⟩) he hpl
  exact wpAny_call (run_fnR F hr hx I1 r q)
theorem Fn.mono {P : Program} {w : World} {K : PySem.W.Frag} {mg : Str → Option Value} {base : Heap} {j k : Nat} {x : Str} {sp : Sp} (F : Fn P w K mg base j x sp) (h : j ≤ k) : Fn P w K mg base k x sp := by
  obtain ⟨f, hm, hk, F⟩ := F.run
  exact ⟨f, hm, hk, F.mono h⟩
end
/-- how a def of the text keeps a promise -/
theorem fn_def {P : Program} {w : World} {K : PySem.W.Frag} {mg : Str → Option Value} {base : Heap} {x : Str} {params : Arguments} {body : List Stmt} {scope : Scope} {f : Addr} {fd : FuncData} {N ps : List Str} {k : Nat} {sp : Sp}
    (F : FunD K x x params body scope [] [] f fd) (hm : mg x = some (.ref f)) (S : FnScope N ps scope) (len : ∀ vs H Q E, sp vs H Q E → vs.length = ps.length)
    (hb : ∀ (kV doc pm : Value) (an : Option Addr) (cdv ct : Value) (us : List Value), us.length = ps.length → bindArgs (PySem.W.fnOf x x params body scope .none kV doc pm an cdv ct) ⟨us, []⟩ = pure (ps.zip us))
    (hbody : ∀ (cdv : Value) (A : Around) (outer : List Env) (s : Shared) (H : Hp) (vs : List V) (Q : VK) (E : XK), Room k (A.deeper (envOfC x scope s.heap.objs.size f cdv)) → sp vs H Q E →
      ∃ t, PSs (cxOf CX0 P w K mg base N x scope f cdv A outer s H E).nox body t ∧ t ⟨fun _ H' => Q .non H', Q, fun _ _ => False, fun _ _ => False⟩ (start N vs) H) : Fn P w K mg base (k + 1) x sp := by
  have G : FnOk P w K mg base CX0 (k + 1) f fd ps sp := F.ok S len fun cdv A outer s H vs Q E hr h => by
    obtain ⟨t, h1, h2⟩ := hbody cdv A outer s H vs Q E hr h
    exact ⟨t, h1.nox, h2⟩
  have b := F.bindsN hb
  have R := G.raw b .nil
  refine ⟨f, hm, F.kp, R.imp fun vs H Q E h => ?_⟩
  rw [List.append_nil]
  exact h

/-! ### len, list by names -/
def rLn (K : PySem.W.Frag) : List V → Hp → VK → Prop := fun xs H Q => ∃ p ys, xs = [.ref p] ∧ (SqL K H p ys ∨ SqT K H p ys) ∧ Q (.int ys.length) H
def rLs (K : PySem.W.Frag) : List V → Hp → VK → Prop := fun xs H Q => ∃ p ys, xs = [.ref p] ∧ (SqL K H p ys ∨ SqT K H p ys) ∧ ∀ l, H l = none → Q (.ref l) (upd H l (.lst ys))
section
variable {X : Cx}
theorem cr_len : CallR X (.builtin "len") (rLn X.K) := call_len_seq
theorem cr_list : CallR X (.type "list") (rLs X.K) := call_list_of
end
/-! ### readings, one step each -/
section
variable {nx : L2.St → Hp → Prop} {rt : VK} {bk ct : L2.St → Hp → Prop} {σ : L2.St} {H : Hp} {K : PySem.W.Frag} {Q : VK} {t u : TS} {te ta tb : TE} {g : TG} {c : TT} {v x y : V}
theorem r_seq (h : t ⟨u ⟨nx, rt, bk, ct⟩, rt, bk, ct⟩ σ H) : tSeq t u ⟨nx, rt, bk, ct⟩ σ H := h
theorem r_next (h : nx σ H) : tNext ⟨nx, rt, bk, ct⟩ σ H := h
theorem r_asg (h : te σ H fun x H1 => g x σ H1 nx) : tAsg te g ⟨nx, rt, bk, ct⟩ σ H := h
theorem r_ret (h : te σ H rt) : tRet te ⟨nx, rt, bk, ct⟩ σ H := h
theorem r_drop (h : te σ H fun _ H1 => nx σ H1) : tDrop te ⟨nx, rt, bk, ct⟩ σ H := h
theorem r_ifS (h : c σ H fun b H1 => if b = true then t ⟨nx, rt, bk, ct⟩ σ H1 else u ⟨nx, rt, bk, ct⟩ σ H1) : tIfS c t u ⟨nx, rt, bk, ct⟩ σ H := h
theorem r_par {i j : Nat} {ta : TA} (h : ta σ H fun vs H1 => ∃ v w, vs = [v, w] ∧ nx ((σ.set i (some v)).set j (some w)) H1) : tPar i j ta ⟨nx, rt, bk, ct⟩ σ H := h
theorem r_name {i : Nat} {R : L2.St → Hp → Prop} (h : R (σ.set i (some v)) H) : gName i v σ H R := h
theorem r_gTup {n : Nat} {ts : TGs} {a : Addr} {xs : List V} {R : L2.St → Hp → Prop} (h1 : SqT K H a xs) (h2 : xs.length = n) (h : ts xs σ H R) : gTup K n ts (.ref a) σ H R := ⟨a, xs, rfl, h1, h2, h⟩
theorem r_gCons {ts : TGs} {vs : List V} {R : L2.St → Hp → Prop} (h : g v σ H fun σ' H' => ts vs σ' H' R) : gCons g ts (v :: vs) σ H R := ⟨v, vs, rfl, h⟩
theorem r_gNil {R : L2.St → Hp → Prop} (h : R σ H) : gNil [] σ H R := ⟨rfl, h⟩
theorem r_gSub {to ti : TE} {ts : TSet} {R : L2.St → Hp → Prop} (h : to σ H fun o H1 => ti σ H1 fun i H2 => ts o i v H2 fun H3 => R σ H3) : gSub to ti ts v σ H R := h
theorem r_var {i : Nat} (h1 : σ[i]? = some (some v)) (h : Q v H) : tVar i σ H Q := ⟨v, h1, h⟩
theorem r_c (h : Q v H) : tC v σ H Q := h
theorem r_op {r : R2} (h : ta σ H fun x H1 => tb σ H1 fun y H2 => r x y H2 Q) : tOp r ta tb σ H Q := h
theorem r_un {r : V → Hp → VK → Prop} (h : ta σ H fun x H1 => r x H1 Q) : tUn r ta σ H Q := h
theorem r_I0 {f : Int → Int → V} {i j : Int} (h : Q (f i j) H) : rI0 f (.int i) (.int j) H Q := ⟨i, j, rfl, rfl, h⟩
theorem r_I {C : Int → Int → Prop} {f : Int → Int → V} {i j : Int} (hc : C i j) (h : Q (f i j) H) : rI C f (.int i) (.int j) H Q := ⟨i, j, rfl, rfl, hc, h⟩
theorem r_U {f : Int → V} {i : Int} (h : Q (f i) H) : rU f (.int i) H Q := ⟨i, rfl, h⟩
theorem r_ixT {p : Addr} {xs : List V} {i : Int} (h1 : SqT K H p xs) (h2 : atI xs i = some v) (h : Q v H) : rIxT K (.ref p) (.int i) H Q := ⟨p, xs, i, v, rfl, rfl, h1, h2, h⟩
theorem r_ixL {p : Addr} {xs : List V} {i : Int} (h1 : SqL K H p xs) (h2 : atI xs i = some v) (h : Q v H) : rIxL K (.ref p) (.int i) H Q := ⟨p, xs, i, v, rfl, rfl, h1, h2, h⟩
theorem r_cons {t : TA} {R : List V → Hp → Prop} (h : ta σ H fun x H1 => t σ H1 fun xs H2 => R (x :: xs) H2) : tCons ta t σ H R := h
theorem r_nil {R : List V → Hp → Prop} (h : R [] H) : tNil σ H R := h
theorem r_tup {t : TA} (h : t σ H fun xs H1 => xs.length ≤ sizeLine ∧ ∀ p, H1 p = none → Q (.ref p) (upd H1 p (.tup xs))) : tTup t σ H Q := h
theorem r_lst {t : TA} (h : t σ H fun xs H1 => xs.length ≤ sizeLine ∧ ∀ p, H1 p = none → Q (.ref p) (upd H1 p (.lst xs))) : tLst t σ H Q := h
theorem r_CB {r : List V → Hp → VK → Prop} {t : TA} (h : t σ H fun vs H1 => r vs H1 Q) : tCB r t σ H Q := h
theorem r_R {sp : Sp} {t : TA} (h : t σ H fun vs H1 => sp vs H1 Q E0) : tR sp t σ H Q := h
theorem r_gcd {a b : Int} (h : Q (.int ((Nat.gcd a.natAbs b.natAbs : Nat) : Int)) H) : rGcd [.int a, .int b] H Q := ⟨a, b, rfl, h⟩
theorem r_test {R : Bool → Hp → Prop} (h : te σ H fun x H' => ∃ k, x = .bl k ∧ R k H') : tTest te σ H R := h
theorem r_B {R : Bool → Hp → Prop} (h : te σ H fun x H' => ∃ k, x = .bl k ∧ R k H') : tB te σ H R := h
theorem r_bl {b : Bool} {R : Bool → Prop} (h : R b) : ∃ k, V.bl b = .bl k ∧ R k := ⟨b, rfl, h⟩
theorem r_if (h : c σ H fun b H1 => if b = true then ta σ H1 Q else tb σ H1 Q) : tIf c ta tb σ H Q := h
theorem r_and {d : TT} {R : Bool → Hp → Prop} (h : c σ H fun b H1 => if b = true then d σ H1 R else R false H1) : tAnd c d σ H R := h
theorem r_or {d : TT} {R : Bool → Hp → Prop} (h : c σ H fun b H1 => if b = true then R true H1 else d σ H1 R) : tOr c d σ H R := h
theorem r_not {R : Bool → Hp → Prop} (h : c σ H fun b H1 => R (!b) H1) : tNot c σ H R := h
theorem r_eq (hs : scal x y = true) (h : Q (.bl (decide (x = y))) H) : rEq x y H Q := ⟨hs, h⟩
theorem r_ne (hs : scal x y = true) (h : Q (.bl (!decide (x = y))) H) : rNe x y H Q := ⟨hs, h⟩
theorem r_dec {p : Prop} [Decidable p] {A B : Prop} (h1 : p → A) (h2 : ¬ p → B) : if decide p = true then A else B := by
  by_cases hp : p
  · rw [decide_eq_true hp, if_pos rfl]; exact h1 hp
  · rw [decide_eq_false hp, if_neg (by decide)]; exact h2 hp
theorem r_forT {i : Nat} {a : Addr} {xs : List V} (h1 : σ[i]? = some (some (.ref a))) (h2 : SqT K H a xs) (Pv : Nat → L2.St → Hp → Prop) (h0 : Pv 0 σ H) (hl : ∀ i σ H, i ≤ xs.length → Pv i σ H → SqT K H a xs)
    (hs : ∀ i x σ H, xs[i]? = some x → Pv i σ H → g x σ H fun σ2 H2 => t ⟨Pv (i + 1), rt, nx, Pv (i + 1)⟩ σ2 H2) (hd : ∀ σ H, Pv xs.length σ H → nx σ H) : tFor (iTup K (tVar i)) g t ⟨nx, rt, bk, ct⟩ σ H :=
  ⟨_, h1, a, rfl, ⟨xs, h2⟩, for_tup Pv h0 hl hs hd⟩
theorem r_forL {i : Nat} {a : Addr} {xs : List V} (h1 : σ[i]? = some (some (.ref a))) (h2 : SqL K H a xs) (Pv : Nat → L2.St → Hp → Prop) (h0 : Pv 0 σ H) (hl : ∀ i σ H, i ≤ xs.length → Pv i σ H → SqL K H a xs)
    (hs : ∀ i x σ H, xs[i]? = some x → Pv i σ H → g x σ H fun σ2 H2 => t ⟨Pv (i + 1), rt, nx, Pv (i + 1)⟩ σ2 H2) (hd : ∀ σ H, Pv xs.length σ H → nx σ H) : tFor (iList K (tVar i)) g t ⟨nx, rt, bk, ct⟩ σ H :=
  ⟨_, h1, a, rfl, ⟨xs, h2⟩, for_list Pv h0 hl hs hd⟩
theorem r_for {wi : TI} (h : wi σ H fun J H1 => ∃ W : Nat → Nat → L2.St → Hp → Prop, (∃ m, W 0 m σ H1) ∧ ∀ i m σ H, W i m σ H →
  (J.stop i H ∧ nx σ H) ∨ (J.go i H ∧ ∃ N : L2.St → Hp → Prop, (∀ σ' H', N σ' H' → ∃ m', m' < m ∧ W (i + 1) m' σ' H') ∧ ∀ x H', J.yld i H x H' → g x σ H' fun σ2 H2 => t ⟨N, rt, nx, N⟩ σ2 H2)) : tFor wi g t ⟨nx, rt, bk, ct⟩ σ H := h
theorem r_iList {tl : TE} {R : It → Hp → Prop} (h : tl σ H fun x H1 => ∃ a, x = .ref a ∧ (∃ xs, SqL K H1 a xs) ∧ R (Itl K a) H1) : iList K tl σ H R := h
theorem r_iTup {tl : TE} {R : It → Hp → Prop} (h : tl σ H fun x H1 => ∃ a, x = .ref a ∧ (∃ xs, SqT K H1 a xs) ∧ R (Itt K a) H1) : iTup K tl σ H R := h
theorem r_iRng1 {ta : TA} {R : It → Hp → Prop} (h : ta σ H fun vs H1 => ∃ j : Int, vs = [.int j] ∧ -(2 ^ 62) ≤ j ∧ j < 2 ^ 62 ∧ R (Itr 0 j.toNat) H1) : iRng1 ta σ H R := h
theorem r_loopL {a : Addr} {xs : List V} (Pv : Nat → L2.St → Hp → Prop) (h0 : Pv 0 σ H) (hl : ∀ i σ H, i ≤ xs.length → Pv i σ H → SqL K H a xs)
    (hs : ∀ i x σ H, xs[i]? = some x → Pv i σ H → g x σ H fun σ2 H2 => t ⟨Pv (i + 1), rt, nx, Pv (i + 1)⟩ σ2 H2) (hd : ∀ σ H, Pv xs.length σ H → nx σ H) :
    ∃ W : Nat → Nat → L2.St → Hp → Prop, (∃ m, W 0 m σ H) ∧ ∀ i m σ H, W i m σ H →
      ((Itl K a).stop i H ∧ nx σ H) ∨ ((Itl K a).go i H ∧ ∃ N : L2.St → Hp → Prop, (∀ σ' H', N σ' H' → ∃ m', m' < m ∧ W (i + 1) m' σ' H') ∧ ∀ x H', (Itl K a).yld i H x H' → g x σ H' fun σ2 H2 => t ⟨N, rt, nx, N⟩ σ2 H2) :=
  for_list (D := ⟨nx, rt, nx, nx⟩) Pv h0 hl hs hd
theorem r_loopT {a : Addr} {xs : List V} (Pv : Nat → L2.St → Hp → Prop) (h0 : Pv 0 σ H) (hl : ∀ i σ H, i ≤ xs.length → Pv i σ H → SqT K H a xs)
    (hs : ∀ i x σ H, xs[i]? = some x → Pv i σ H → g x σ H fun σ2 H2 => t ⟨Pv (i + 1), rt, nx, Pv (i + 1)⟩ σ2 H2) (hd : ∀ σ H, Pv xs.length σ H → nx σ H) :
    ∃ W : Nat → Nat → L2.St → Hp → Prop, (∃ m, W 0 m σ H) ∧ ∀ i m σ H, W i m σ H →
      ((Itt K a).stop i H ∧ nx σ H) ∨ ((Itt K a).go i H ∧ ∃ N : L2.St → Hp → Prop, (∀ σ' H', N σ' H' → ∃ m', m' < m ∧ W (i + 1) m' σ' H') ∧ ∀ x H', (Itt K a).yld i H x H' → g x σ H' fun σ2 H2 => t ⟨N, rt, nx, N⟩ σ2 H2) :=
  for_tup (D := ⟨nx, rt, nx, nx⟩) Pv h0 hl hs hd
theorem r_loopR {lo : Int} {n : Nat} (Pv : Nat → L2.St → Hp → Prop) (h0 : Pv 0 σ H)
    (hs : ∀ i σ H, i < n → Pv i σ H → g (.int (lo + i)) σ H fun σ2 H2 => t ⟨Pv (i + 1), rt, nx, Pv (i + 1)⟩ σ2 H2) (hd : ∀ σ H, Pv n σ H → nx σ H) :
    ∃ W : Nat → Nat → L2.St → Hp → Prop, (∃ m, W 0 m σ H) ∧ ∀ i m σ H, W i m σ H →
      ((Itr lo n).stop i H ∧ nx σ H) ∨ ((Itr lo n).go i H ∧ ∃ N : L2.St → Hp → Prop, (∀ σ' H', N σ' H' → ∃ m', m' < m ∧ W (i + 1) m' σ' H') ∧ ∀ x H', (Itr lo n).yld i H x H' → g x σ H' fun σ2 H2 => t ⟨N, rt, nx, N⟩ σ2 H2) :=
  for_range (D := ⟨nx, rt, nx, nx⟩) Pv h0 hs hd
theorem r_gUnl {n : Nat} {ts : TGs} {a : Addr} {xs : List V} {R : L2.St → Hp → Prop} (h1 : SqL K H a xs) (h2 : xs.length = n) (h : ts xs σ H R) : gUnl K n ts (.ref a) σ H R := ⟨a, xs, rfl, h1, h2, h⟩
theorem r_BM {T : String} {r : V → List V → Hp → VK → Prop} {to : TE} {ta : TA} (h : to σ H fun x H1 => tyV K T x H1 ∧ ta σ H1 fun xs H2 => r x xs H2 Q) : tBM K T r to ta σ H Q := h
theorem r_BM0 {T : String} {r : V → List V → Hp → VK → Prop} {to : TE} (h : to σ H fun x H1 => tyV K T x H1 ∧ r x [] H1 Q) : tBM0 K T r to σ H Q := h
theorem r_lc {wi : TI} {g : TG} {tt : TT} {te : TE} {vs : List Nat} (h : wi σ H fun J H1 => ∀ D, H1 D = none → ∃ W : Nat → Nat → Hp → Prop, (∃ m, W 0 m (upd H1 D (.lst []))) ∧ ∀ i m H, W i m H →
  (J.stop i H ∧ Q (.ref D) H) ∨ (J.go i H ∧ ∃ Nx : Hp → Prop, (∀ H', Nx H' → ∃ m', m' < m ∧ W (i + 1) m' H') ∧ ∀ x H', J.yld i H x H' → g x (wipe σ vs) H' fun σ2 H2 => wipe σ2 vs = wipe σ vs ∧ tt σ2 H2 fun b H3 =>
    if b = true then te σ2 H3 fun y H4 => ∃ acc, H4 D = some (.lst acc) ∧ acc.length < sizeLine ∧ Nx (upd H4 D (.lst (acc ++ [y]))) else Nx H3)) : tLc wi g tt te vs σ H Q := h
theorem r_yes {R : Bool → Hp → Prop} (h : R true H) : tYes σ H R := h
theorem r_tt {A B : Prop} (h : A) : if true = true then A else B := by rw [if_pos rfl]; exact h
theorem r_popAt {l : Addr} {xs : List V} {i : Int} {k : Nat} {y : V} (h1 : H l = some (.lst xs)) (h2 : i = (k : Int)) (h3 : xs[k]? = some y) (h4 : xs.length ≤ 4000) (h : Q y (upd H l (.lst (xs.eraseIdx k)))) : rPopAt (.ref l) [.int i] H Q := by
  have hk : k < xs.length := (List.getElem?_eq_some_iff.mp h3).1
  have e : ixN xs.length i = some k := by
    unfold ixN
    rw [if_pos (by omega), if_pos (by omega), h2, Int.toNat_natCast]
  exact ⟨l, xs, i, k, y, rfl, rfl, h1, by omega, by omega, (ixN_seq e).1, h3, h⟩
theorem r_lcR {lo : Int} {n : Nat} {g : TG} {tt : TT} {te : TE} {vs : List Nat} {D : Addr} {Qd : Hp → Prop} (Pv : Nat → Hp → Prop) (h0 : Pv 0 (upd H D (.lst [])))
    (hs : ∀ i H, i < n → Pv i H → g (.int (lo + i)) (wipe σ vs) H fun σ2 H2 => wipe σ2 vs = wipe σ vs ∧ tt σ2 H2 fun b H3 =>
      if b = true then te σ2 H3 fun y H4 => ∃ acc, H4 D = some (.lst acc) ∧ acc.length < sizeLine ∧ Pv (i + 1) (upd H4 D (.lst (acc ++ [y]))) else Pv (i + 1) H3) (hd : ∀ H, Pv n H → Qd H) :
    ∃ W : Nat → Nat → Hp → Prop, (∃ m, W 0 m (upd H D (.lst []))) ∧ ∀ i m H, W i m H →
      ((Itr lo n).stop i H ∧ Qd H) ∨ ((Itr lo n).go i H ∧ ∃ Nx : Hp → Prop, (∀ H', Nx H' → ∃ m', m' < m ∧ W (i + 1) m' H') ∧ ∀ x H', (Itr lo n).yld i H x H' → g x (wipe σ vs) H' fun σ2 H2 => wipe σ2 vs = wipe σ vs ∧ tt σ2 H2 fun b H3 =>
        if b = true then te σ2 H3 fun y H4 => ∃ acc, H4 D = some (.lst acc) ∧ acc.length < sizeLine ∧ Nx (upd H4 D (.lst (acc ++ [y]))) else Nx H3) :=
  lc_range (Qd := Qd) Pv h0 hs hd
theorem r_lcL {a : Addr} {xs : List V} {g : TG} {tt : TT} {te : TE} {vs : List Nat} {D : Addr} {Qd : Hp → Prop} (Pv : Nat → Hp → Prop) (h0 : Pv 0 (upd H D (.lst []))) (hl : ∀ i H, i ≤ xs.length → Pv i H → SqL K H a xs)
    (hs : ∀ i x H, xs[i]? = some x → Pv i H → g x (wipe σ vs) H fun σ2 H2 => wipe σ2 vs = wipe σ vs ∧ tt σ2 H2 fun b H3 =>
      if b = true then te σ2 H3 fun y H4 => ∃ acc, H4 D = some (.lst acc) ∧ acc.length < sizeLine ∧ Pv (i + 1) (upd H4 D (.lst (acc ++ [y]))) else Pv (i + 1) H3) (hd : ∀ H, Pv xs.length H → Qd H) :
    ∃ W : Nat → Nat → Hp → Prop, (∃ m, W 0 m (upd H D (.lst []))) ∧ ∀ i m H, W i m H →
      ((Itl K a).stop i H ∧ Qd H) ∨ ((Itl K a).go i H ∧ ∃ Nx : Hp → Prop, (∀ H', Nx H' → ∃ m', m' < m ∧ W (i + 1) m' H') ∧ ∀ x H', (Itl K a).yld i H x H' → g x (wipe σ vs) H' fun σ2 H2 => wipe σ2 vs = wipe σ vs ∧ tt σ2 H2 fun b H3 =>
        if b = true then te σ2 H3 fun y H4 => ∃ acc, H4 D = some (.lst acc) ∧ acc.length < sizeLine ∧ Nx (upd H4 D (.lst (acc ++ [y]))) else Nx H3) :=
  lc_list (Qd := Qd) Pv h0 hl hs hd
theorem r_true {c : Bool} {A B : Prop} (hc : c = true) (h : A) : if c = true then A else B := by rw [if_pos hc]; exact h
theorem r_false {c : Bool} {A B : Prop} (hc : c = false) (h : B) : if c = true then A else B := by rw [hc, if_neg (by decide)]; exact h
theorem len_is {n : Nat} {k : Int} (h : (n : Int) = k) : decide (V.int (n : Int) = V.int k) = true := decide_eq_true (by rw [h])
theorem len_not {n : Nat} {k : Int} (h : (n : Int) ≠ k) : decide (V.int (n : Int) = V.int k) = false := decide_eq_false fun z => h (V.int.inj z)
theorem r_lcZL {a b : Addr} {xs ys : List V} {g : TG} {tt : TT} {te : TE} {vs : List Nat} {D : Addr} {Qd : Hp → Prop} (hl : xs.length = ys.length) (Pv : Nat → Hp → Prop) (h0 : Pv 0 (upd H D (.lst []))) (hq : ∀ i H, Pv i H → SqL K H a xs ∧ SqL K H b ys)
    (hs : ∀ (i : Nat) (x y : V) (T : Addr) (H : Hp), xs[i]? = some x → ys[i]? = some y → Pv i H → H T = none → g (.ref T) (wipe σ vs) (upd H T (.tup [x, y])) fun σ2 H2 => wipe σ2 vs = wipe σ vs ∧ tt σ2 H2 fun b H3 =>
      if b = true then te σ2 H3 fun y H4 => ∃ acc, H4 D = some (.lst acc) ∧ acc.length < sizeLine ∧ Pv (i + 1) (upd H4 D (.lst (acc ++ [y]))) else Pv (i + 1) H3) (hd : ∀ H, Pv xs.length H → Qd H) :
    ∃ W : Nat → Nat → Hp → Prop, (∃ m, W 0 m (upd H D (.lst []))) ∧ ∀ i m H, W i m H →
      ((Itz K a b).stop i H ∧ Qd H) ∨ ((Itz K a b).go i H ∧ ∃ Nx : Hp → Prop, (∀ H', Nx H' → ∃ m', m' < m ∧ W (i + 1) m' H') ∧ ∀ x H', (Itz K a b).yld i H x H' → g x (wipe σ vs) H' fun σ2 H2 => wipe σ2 vs = wipe σ vs ∧ tt σ2 H2 fun b H3 =>
        if b = true then te σ2 H3 fun y H4 => ∃ acc, H4 D = some (.lst acc) ∧ acc.length < sizeLine ∧ Nx (upd H4 D (.lst (acc ++ [y]))) else Nx H3) := by
  refine ⟨fun i m H => m = xs.length - i ∧ i ≤ xs.length ∧ Pv i H, ⟨xs.length, rfl, Nat.zero_le _, h0⟩, ?_⟩
  rintro i m H ⟨rfl, hi, p⟩
  obtain ⟨qx, qy⟩ := hq i H p
  by_cases hlt : i < xs.length
  · have hx : xs[i]? = some xs[i] := List.getElem?_eq_getElem hlt
    have hlt2 : i < ys.length := by omega
    have hy : ys[i]? = some ys[i] := List.getElem?_eq_getElem hlt2
    refine .inr ⟨⟨xs, ys, _, _, qx, qy, hx, hy⟩, Pv (i + 1), fun H' p' => ⟨xs.length - (i + 1), by omega, rfl, hlt, p'⟩, fun v H' y => ?_⟩
    obtain ⟨T, x', y', rfl, hT, rfl, f1, f2⟩ := y
    exact hs i x' y' T _ (f1 xs qx) (f2 ys qy) p hT
  · have e : i = xs.length := by omega
    subst e
    exact .inl ⟨⟨xs, ys, qx, qy, .inl (Nat.le_refl _)⟩, hd H p⟩
theorem r_lcZT {a b : Addr} {xs ys : List V} {g : TG} {tt : TT} {te : TE} {vs : List Nat} {D : Addr} {Qd : Hp → Prop} (hl : xs.length = ys.length) (Pv : Nat → Hp → Prop) (h0 : Pv 0 (upd H D (.lst []))) (hq : ∀ i H, Pv i H → SqT K H a xs ∧ SqT K H b ys)
    (hs : ∀ (i : Nat) (x y : V) (T : Addr) (H : Hp), xs[i]? = some x → ys[i]? = some y → Pv i H → H T = none → g (.ref T) (wipe σ vs) (upd H T (.tup [x, y])) fun σ2 H2 => wipe σ2 vs = wipe σ vs ∧ tt σ2 H2 fun b H3 =>
      if b = true then te σ2 H3 fun y H4 => ∃ acc, H4 D = some (.lst acc) ∧ acc.length < sizeLine ∧ Pv (i + 1) (upd H4 D (.lst (acc ++ [y]))) else Pv (i + 1) H3) (hd : ∀ H, Pv xs.length H → Qd H) :
    ∃ W : Nat → Nat → Hp → Prop, (∃ m, W 0 m (upd H D (.lst []))) ∧ ∀ i m H, W i m H →
      ((RZ.ItzT K a b).stop i H ∧ Qd H) ∨ ((RZ.ItzT K a b).go i H ∧ ∃ Nx : Hp → Prop, (∀ H', Nx H' → ∃ m', m' < m ∧ W (i + 1) m' H') ∧ ∀ x H', (RZ.ItzT K a b).yld i H x H' → g x (wipe σ vs) H' fun σ2 H2 => wipe σ2 vs = wipe σ vs ∧ tt σ2 H2 fun b H3 =>
        if b = true then te σ2 H3 fun y H4 => ∃ acc, H4 D = some (.lst acc) ∧ acc.length < sizeLine ∧ Nx (upd H4 D (.lst (acc ++ [y]))) else Nx H3) := by
  refine ⟨fun i m H => m = xs.length - i ∧ i ≤ xs.length ∧ Pv i H, ⟨xs.length, rfl, Nat.zero_le _, h0⟩, ?_⟩
  rintro i m H ⟨rfl, hi, p⟩
  obtain ⟨qx, qy⟩ := hq i H p
  by_cases hlt : i < xs.length
  · have hx : xs[i]? = some xs[i] := List.getElem?_eq_getElem hlt
    have hlt2 : i < ys.length := by omega
    have hy : ys[i]? = some ys[i] := List.getElem?_eq_getElem hlt2
    refine .inr ⟨⟨xs, ys, _, _, qx, qy, hx, hy⟩, Pv (i + 1), fun H' p' => ⟨xs.length - (i + 1), by omega, rfl, hlt, p'⟩, fun v H' y => ?_⟩
    obtain ⟨T, x', y', rfl, hT, rfl, f1, f2⟩ := y
    exact hs i x' y' T _ (f1 xs qx) (f2 ys qy) p hT
  · have e : i = xs.length := by omega
    subst e
    exact .inl ⟨⟨xs, ys, qx, qy, .inl (Nat.le_refl _)⟩, hd H p⟩
theorem tyT {a : Addr} {xs : List V} (h : SqT K H a xs) : TyX K H (.ref a) (.type "tuple") := by
  rcases h with (h | ⟨o, h⟩) | ⟨o, its, n, h, c, _⟩
  · exact .base (.tup h)
  · exact .fTuple h
  · exact .kTuple h c
theorem tyL {a : Addr} {xs : List V} (h : SqL K H a xs) : TyX K H (.ref a) (.type "list") := by
  rcases h with (h | ⟨o, h⟩) | ⟨o, its, n, h, c, _⟩
  · exact .base (.lst h)
  · exact .base (.frz h)
  · exact .kList h c
theorem r_isi {T c : String} {b : Bool} (ht : TyX K H x (.type T)) (he : PySem.W.kitOne K (.type T) (.type c) = some b) (h : Q (.bl b) H) : rIsi K [x, .ty c] H Q := ⟨x, .ty c, .type T, .type c, b, rfl, .ty c, ht, he, h⟩
theorem r_isiT {T c1 c2 : String} {b : Bool} {p : Addr} (hp : H p = some (.tup [.ty c1, .ty c2])) (ht : TyX K H x (.type T)) (he : PySem.W.kitAny K (.type T) [.type c1, .type c2] = some b) (h : Q (.bl b) H) : rIsiT K [x, .ref p] H Q :=
  ⟨x, p, [.ty c1, .ty c2], .type T, [.type c1, .type c2], b, rfl, hp, .cons (.ty c1) (.cons (.ty c2) .nil), ht, he, h⟩
theorem r_andV (h : ta σ H fun x H1 => ∃ c, x = .bl c ∧ if c = true then tb σ H1 Q else Q (.bl false) H1) : tAndV ta tb σ H Q := h
theorem r_orV (h : ta σ H fun x H1 => ∃ c, x = .bl c ∧ if c = true then Q (.bl true) H1 else tb σ H1 Q) : tOrV ta tb σ H Q := h
theorem r_notV (h : ta σ H fun x H1 => ∃ c, x = .bl c ∧ Q (.bl (!c)) H1) : tNotV ta σ H Q := h
theorem r_all {a : Addr} {bs : List Bool} (h1 : SqL K H a (bs.map V.bl)) (h : Q (.bl (bs.all id)) H) : rAll K [.ref a] H Q := ⟨a, bs, rfl, h1, h⟩
theorem r_any {a : Addr} {bs : List Bool} (h1 : SqL K H a (bs.map V.bl)) (h : Q (.bl (bs.any id)) H) : rAny K [.ref a] H Q := ⟨a, bs, rfl, h1, h⟩
theorem r_iZip {ta : TA} {R : It → Hp → Prop} (h : ta σ H fun vs H1 => ∃ a b xs ys, vs = [.ref a, .ref b] ∧ ((SqL K H1 a xs ∧ SqL K H1 b ys ∧ R (Itz K a b) H1) ∨ (SqT K H1 a xs ∧ SqT K H1 b ys ∧ R (RZ.ItzT K a b) H1))) : RZ.iZipA K ta σ H R := h
theorem r_while (W : Nat → L2.St → Hp → Prop) (m : Nat) (h0 : W m σ H) (hs : ∀ m σ H, W m σ H → c σ H fun b H1 => if b = true then ∃ N : L2.St → Hp → Prop, (∀ σ' H', N σ' H' → ∃ m', m' < m ∧ W m' σ' H') ∧ t ⟨N, rt, nx, N⟩ σ H1 else nx σ H1) : tWhile c t ⟨nx, rt, bk, ct⟩ σ H :=
  ⟨W, ⟨m, h0⟩, hs⟩
theorem r_slL {te : TE} {tl th : TO} {r : V → Option Int → Option Int → Hp → VK → Prop} (h : te σ H fun x H1 => tl σ H1 fun l H2 => th σ H2 fun u H3 => r x l u H3 Q) : tSl r te tl th σ H Q := h
theorem r_noP {R : Option Int → Hp → Prop} (h : R none H) : tNoPart σ H R := h
theorem r_part {te : TE} {R : Option Int → Hp → Prop} (h : te σ H fun x H1 => ∃ i, x = .int i ∧ R (some i) H1) : tPart te σ H R := h
theorem r_exI {i : Int} {R : Int → Prop} (h : R i) : ∃ j, V.int i = .int j ∧ R j := ⟨i, rfl, h⟩
theorem r_slList {a : Addr} {xs : List V} {lo hi : Option Int} (h1 : SqL K H a xs) (h : ∀ p, H p = none → Q (.ref p) (upd H p (.lst (cutV xs lo hi)))) : rSlL K (.ref a) lo hi H Q := ⟨a, xs, rfl, h1, h⟩
theorem r_setL {p : Addr} {xs : List V} {k : Int} {j : Nat} {R : Hp → Prop} (h1 : H p = some (.lst xs)) (h2 : ixN xs.length k = some j) (h : R (upd H p (.lst (xs.set j v)))) : rSetL (.ref p) (.int k) v H R := ⟨p, xs, k, j, rfl, rfl, h1, h2, h⟩
theorem r_int {i : Int} {R : Int → Prop} {B : Prop} (h : R i) : (∃ j, [V.int i] = [.int j] ∧ R j) ∨ B := .inl ⟨i, rfl, h⟩
theorem r_len {p : Addr} {ys : List V} (h1 : SqL K H p ys ∨ SqT K H p ys) (h : Q (.int ys.length) H) : rLn K [.ref p] H Q := ⟨p, ys, rfl, h1, h⟩
theorem r_list {p : Addr} {ys : List V} (h1 : SqL K H p ys ∨ SqT K H p ys) (h : ∀ l, H l = none → Q (.ref l) (upd H l (.lst ys))) : rLs K [.ref p] H Q := ⟨p, ys, rfl, h1, h⟩
end
section
variable {X : Cx}
/-- a statement, then the rest, a word of one's own between them -/
def tMid (t u : TS) : TS := fun D σ H => ∃ M : L2.St → Hp → Prop, t ⟨M, D.rt, D.bk, D.ct⟩ σ H ∧ ∀ σ' H', M σ' H' → u D σ' H'
theorem pss_mid {st : Stmt} {rest : List Stmt} {t u : TS} (h1 : PS X st t) (h2 : PSs X rest u) : PSs X (st :: rest) (tMid t u) := by
  refine ⟨fun pins s σ H D I h => ?_⟩
  obtain ⟨M, hm, hu⟩ := h
  refine wpAny_execs_cons (thn (h1.run pins s σ H ⟨M, D.rt, D.bk, D.ct⟩ I hm) fun f s1 q => ?_)
  cases f with
  | next =>
    obtain ⟨σ', H', I', q⟩ := q
    exact h2.run pins s1 σ' H' D I' (hu σ' H' q)
  | ret v => exact q
  | brk => exact q
  | cont => exact q
theorem r_mid {t u : TS} {nx : L2.St → Hp → Prop} {rt : VK} {bk ct : L2.St → Hp → Prop} {σ : L2.St} {H : Hp} (M : L2.St → Hp → Prop) (h1 : t ⟨M, rt, bk, ct⟩ σ H) (h2 : ∀ σ' H', M σ' H' → u ⟨nx, rt, bk, ct⟩ σ' H') : tMid t u ⟨nx, rt, bk, ct⟩ σ H := ⟨M, h1, h2⟩
/-- a store into a list: the heap behind it by a name -/
theorem r_setB {K : PySem.W.Frag} {H : Hp} {b : Addr} {l : List V} {k : Int} {j : Nat} {v : V} {R : Hp → Prop} (h1 : H b = some (.lst l)) (h2 : ixN l.length k = some j) (l' : List V) (h3 : l.set j v = l')
    (h : ∀ H1, H1 b = some (.lst l') → Ext [b] H H1 → (∀ a xs, SqL K H a xs → xs ≠ l → SqL K H1 a xs) → R H1) : rSetL (.ref b) (.int k) v H R := by
  refine ⟨b, l, k, j, rfl, rfl, h1, h2, h _ ?_ (Ext.refl.at_ List.mem_cons_self) fun a xs q hd => ?_⟩
  · rw [h3]
    exact upd_same
  · rcases q with (q | ⟨u, q⟩) | q
    · exact .inl (.inl (by rw [upd_ne (fun z => hd (by rw [z, h1] at q; cases q; rfl))]; exact q))
    · exact .inl (.inr ⟨u, by rw [upd_ne (fun z => by rw [z, h1] at q; cases q)]; exact q⟩)
    · exact .inr q
end
section
variable {P : Program} {w : World} {K : PySem.W.Frag} {mg : Str → Option Value} {base : Heap}
/-- def f(a, .., *v) -/
theorem fn_star {x pv : Str} {params : Arguments} {body : List Stmt} {scope : Scope} {f : Addr} {fd : FuncData} {N ps : List Str} {k : Nat} {sp sp' : Sp}
    (F : FunD K x x params body scope [] [] f fd) (hm : mg x = some (.ref f)) (S : FnScope N (ps ++ [pv]) scope)
    (hb : ∀ (kV doc pm : Value) (an : Option Addr) (cdv ct : Value) (us rest : List Value), us.length = ps.length → bindArgs (PySem.W.fnOf x x params body scope .none kV doc pm an cdv ct) ⟨us ++ rest, []⟩ = (newTuple rest >>= fun t => pure (ps.zip us ++ [(pv, t)])))
    (hbody : ∀ (cdv : Value) (A : Around) (outer : List Env) (s : Shared) (H : Hp) (vs : List V) (Q : VK) (E : XK), Room k (A.deeper (envOfC x scope s.heap.objs.size f cdv)) → sp vs H Q E →
      ∃ t, PSs (cxOf CX0 P w K mg base N x scope f cdv A outer s H E).nox body t ∧ t ⟨fun _ H' => Q .non H', Q, fun _ _ => False, fun _ _ => False⟩ (start N vs) H)
    (himp : ∀ vs H Q E, sp' vs H Q E → ∃ ws rest, vs = ws ++ rest ∧ ws.length = ps.length ∧ rest.length ≤ sizeLine ∧ ∀ p, H p = none → sp (ws ++ [V.ref p]) (upd H p (.tup rest)) Q E) : Fn P w K mg base (k + 1) x sp' := by
  have kp := F.kp
  obtain ⟨oc, od, dV, kV, doc, pm, an, cdv, ct, osl, rfl, lk, hcd, hD, _⟩ := F.ex
  rcases hD with ⟨_, rfl⟩ | ⟨e, _⟩
  · have R := StX.fn_star (P := P) (w := w) (mg := mg) (base := base) (sp := sp) lk hcd S StX.cxUp_none (hb kV doc pm an cdv ct) (fun A outer s H vs Q E hr h => let ⟨t, h1, h2⟩ := hbody cdv A outer s H vs Q E hr h; ⟨t, h1.nox, h2⟩)
    exact ⟨f, hm, kp, R.imp himp⟩
  · exact absurd rfl e
end
end Yk

set_option maxHeartbeats 1000000
/-! Calls by name: two parameters, told in the other order. -/
namespace Yk
open PySem PySem.Spec PyProof.Rows L2
def sw2 {α : Type} (us ws : List α) : List α := match us, ws with
  | [], [a, b] => [b, a]
  | _, _ => []
theorem sw2_rel {vs : List V} {us : List Value} {zs : List V} {ws : List Value} (h1 : Vals vs us) (h2 : Vals zs ws) : Vals (sw2 vs zs) (sw2 us ws) := by
  cases h1 with
  | cons a b => exact .nil
  | nil =>
    cases h2 with
    | nil => exact .nil
    | cons a h2 =>
      cases h2 with
      | nil => exact .nil
      | cons b h2 =>
        cases h2 with
        | nil => exact .cons b (.cons a .nil)
        | cons c h2 => exact .nil
section
variable (P : Program) (w : World) (K : PySem.W.Frag) (mg : Str → Option Value) (base : Heap)
structure FnS (k : Nat) (x : Str) (ks : List Str) (sp : Sp) : Prop where
  run : ∃ f fd ps, mg x = some (.ref f) ∧ PySem.W.keepIn K (.ref f) = true ∧ FnOk P w K mg base CX0 k f fd ps sp ∧ KBinds K fd ps ks sw2 sw2
end
section
variable {P : Program} {w : World} {K : PySem.W.Frag} {mg : Str → Option Value} {base : Heap} {f : Addr} {fd : FuncData}
theorem ok_def {x : Str} {params : Arguments} {body : List Stmt} {scope : Scope} {N ps : List Str} {k : Nat} {sp : Sp}
    (F : FunD K x x params body scope [] [] f fd) (S : FnScope N ps scope) (len : ∀ vs H Q E, sp vs H Q E → vs.length = ps.length)
    (hbody : ∀ (cdv : Value) (A : Around) (outer : List Env) (s : Shared) (H : Hp) (vs : List V) (Q : VK) (E : XK), Room k (A.deeper (envOfC x scope s.heap.objs.size f cdv)) → sp vs H Q E →
      ∃ t, PSs (cxOf CX0 P w K mg base N x scope f cdv A outer s H E).nox body t ∧ t ⟨fun _ H' => Q .non H', Q, fun _ _ => False, fun _ _ => False⟩ (start N vs) H) : FnOk P w K mg base CX0 (k + 1) f fd ps sp :=
  F.ok S len fun cdv A outer s H vs Q E hr h => by
    obtain ⟨t, h1, h2⟩ := hbody cdv A outer s H vs Q E hr h
    exact ⟨t, h1.nox, h2⟩
theorem fn_none {x : Str} {params : Arguments} {body : List Stmt} {scope : Scope} (F : FunD K x x params body scope [] [] f fd) {k : Nat} (hm : mg x = some (.ref f)) : Fn P w K mg base k x (fun _ _ _ _ => False) :=
  ⟨f, hm, F.kp, fun _ _ _ _ _ _ _ _ _ _ _ h => h.elim⟩
theorem fn_of_ok {x : Str} {params : Arguments} {body : List Stmt} {scope : Scope} {ps : List Str} {k : Nat} {sp : Sp}
    (F : FunD K x x params body scope [] [] f fd) (hm : mg x = some (.ref f)) (G : FnOk P w K mg base CX0 k f fd ps sp)
    (hb : ∀ (kV doc pm : Value) (an : Option Addr) (cdv ct : Value) (us : List Value), us.length = ps.length → bindArgs (PySem.W.fnOf x x params body scope .none kV doc pm an cdv ct) ⟨us, []⟩ = pure (ps.zip us)) : Fn P w K mg base k x sp := by
  have b := F.bindsN hb
  have R := G.raw b .nil
  refine ⟨f, hm, F.kp, R.imp fun vs H Q E h => ?_⟩
  rw [List.append_nil]
  exact h
theorem fs_of_ok {x p1 p2 : Str} {params : Arguments} {body : List Stmt} {scope : Scope} {k : Nat} {sp : Sp}
    (F : FunD K x x params body scope [] [] f fd) (hm : mg x = some (.ref f)) (G : FnOk P w K mg base CX0 k f fd [p1, p2] sp)
    (hb : ∀ (kV doc pm : Value) (an : Option Addr) (cdv ct : Value) (a b : Value), bindArgs (PySem.W.fnOf x x params body scope .none kV doc pm an cdv ct) ⟨[], [(p2, a), (p1, b)]⟩ = pure [(p1, b), (p2, a)]) : FnS P w K mg base k x [p2, p1] sp := by
  refine ⟨f, fd, [p1, p2], hm, F.kp, G, ⟨fun s us ws hK hl => ?_, sw2_rel⟩⟩
  obtain ⟨oc, od, dV, kV, doc, pm, an, cdv, ct, osl, rfl, lk, hcd, hD, _⟩ := F.ex
  rcases hD with ⟨_, rfl⟩ | ⟨e, _⟩
  · match us, ws, hl with
    | [], [a, b], _ => exact .of_eq (hb kV doc pm an cdv ct a b)
    | [], [], h => cases h
    | [], [_], h => cases h
    | [], _ :: _ :: _ :: _, h => cases h
    | _ :: _, _, h => cases h
  · exact absurd rfl e
end
section
variable {X : Cx} {k : Nat} {sp : Sp} {x : Str} {p pos : Pos} {ks : List Str} {kws : List Keyword} {tk : TA}
def tRS (sp : Sp) (tk : TA) : TE := fun σ H Q => tk σ H fun zs H1 => ∃ a b, zs = [a, b] ∧ sp [b, a] H1 Q E0
theorem r_RS {σ : L2.St} {H : Hp} {Q : VK} (h : tk σ H fun zs H1 => ∃ a b, zs = [a, b] ∧ sp [b, a] H1 Q E0) : tRS sp tk σ H Q := h
theorem pe_fnS (F : FnS X.prog X.w X.K X.mg X.base k x ks sp) (hr : Room k X.A) (hkw : PK X kws tk) (hg : Gl X x := by rfl) (hdb : (x == ("__debug__" : Str)) = false := by decide)
    (hx : Passes CX0 X E0 := by exact pass0)
    (hall : (backToKw pos (keywordEach kws X.env)).all (·.1.isSome) = true := by rfl) (hks : (backToKw pos (keywordEach kws X.env)).filterMap (·.1) = ks := by rfl)
    (hpl : ((backTo pos (starEach [] X.env)).any (·.1) || (backToKw pos (keywordEach kws X.env)).any (·.1.isNone)) = false := by rfl) :
    PE X (.Call (.Name x p) [] kws pos) (tRS sp tk) := by
  obtain ⟨f, fd, ps, hm, hk, F, hb⟩ := F.run
  refine ⟨fun pins s σ H Q I h => ?_⟩
  refine wpAny_Call_Name_kw (ld_glob I hg hm ?_ hdb)
  refine PySem.W.callWith_KW0 (h₀ := X.base) I.ok.mod.kin hk hall ?_ hpl
  refine thn (hkw.run pos pins s σ H _ I h) fun ws s2 ⟨zs, H2, I2, rz, a, b, ez, q2⟩ => ⟨I2.kIn, ?_⟩
  rw [hks]
  subst ez
  exact run_fnk (us := []) (vs := []) (g := sw2) (gV := sw2) F hr hb hx I2 .nil rz q2
end

/-! stars, and what is a list or a tuple -/
section
variable {X : Cx} {k : Nat} {sp : Sp} {x : Str} {p sp_ pos : Pos} {e : Expr} {es : List Expr} {te : TE} {t : TA}
def tR1 (K : PySem.W.Frag) (sp : Sp) (te : TE) : TE := fun σ H Q => te σ H fun y H1 => ∃ a xs, y = V.ref a ∧ (SqT K H1 a xs ∨ SqL K H1 a xs) ∧ sp xs H1 Q E0
theorem r_R1 {K : PySem.W.Frag} {σ : L2.St} {H : Hp} {Q : VK} (h : te σ H fun y H1 => ∃ a xs, y = V.ref a ∧ (SqT K H1 a xs ∨ SqL K H1 a xs) ∧ sp xs H1 Q E0) : tR1 K sp te σ H Q := h
theorem r_star {K : PySem.W.Frag} {σ : L2.St} {H : Hp} {R : List V → Hp → Prop} (h : te σ H fun x H1 => ∃ p xs, x = V.ref p ∧ (SqT K H1 p xs ∨ SqL K H1 p xs) ∧ t σ H1 fun ys H2 => R (xs ++ ys) H2) : StX.tStar K te t σ H R := h
theorem pe_fnS1 (F : Fn X.prog X.w X.K X.mg X.base k x sp) (hr : Room k X.A) (he : PE X e te) (hg : Gl X x := by rfl) (hdb : (x == ("__debug__" : Str)) = false := by decide) (hx : Passes CX0 X E0 := by exact pass0)
    (hst : starEach [.Starred e sp_] X.env = [(true, eval e X.env)] := by rfl) : PE X (.Call (.Name x p) [.Starred e sp_] [] pos) (tR1 X.K sp te) := by
  obtain ⟨f, hm, hk, F⟩ := F.run
  exact StX.pe_callS1 F hr hk hg hm hx he hdb hst
theorem pe_fnS2 (F : Fn X.prog X.w X.K X.mg X.base k x sp) (hr : Room k X.A) (ha : PA X (e :: es) t) (hg : Gl X x := by rfl) (hdb : (x == ("__debug__" : Str)) = false := by decide) (hx : Passes CX0 X E0 := by exact pass0)
    (he : starEach (e :: es) X.env = (false, eval e X.env) :: starEach es X.env := by rfl) (hst : (backTo pos (starEach es X.env)).any (·.1) = true := by rfl) : PE X (.Call (.Name x p) (e :: es) [] pos) (tR sp t) := by
  obtain ⟨f, hm, hk, F⟩ := F.run
  exact StX.pe_callS2 F hr hk hg hm hx ha hdb he hst
def iSeq (K : PySem.W.Frag) (tl : TE) : TI := fun σ H R => iList K tl σ H R ∨ iTup K tl σ H R
theorem pi_seq {tg l : Expr} {tl : TE} (hl : PE X l tl) : PI X tg l (iSeq X.K tl) :=
  ⟨fun pins s σ H R I h => h.elim (fun h => (pi_list hl).run pins s σ H R I h) (fun h => (pi_tup hl).run pins s σ H R I h)⟩
end
section
variable {K : PySem.W.Frag} {nx : L2.St → Hp → Prop} {rt : VK} {bk ct : L2.St → Hp → Prop} {σ : L2.St} {H : Hp} {Q : VK} {g : TG} {tt : TT} {te : TE} {t : TS} {vs : List Nat}
/-- carried on: what is a list or a tuple at a -/
def Kp (K : PySem.W.Frag) (a : Addr) (xs : List V) (H H2 : Hp) : Prop := (SqL K H a xs → SqL K H2 a xs) ∧ (SqT K H a xs → SqT K H2 a xs)
theorem kp0 {a : Addr} {xs : List V} {H2 : Hp} (e : Ext [] H H2) : Kp K a xs H H2 := ⟨lst0 e, tup0 e⟩
theorem Kp.trans {a : Addr} {xs : List V} {H1 H2 : Hp} (h : Kp K a xs H H1) (g : Kp K a xs H1 H2) : Kp K a xs H H2 := ⟨fun z => g.1 (h.1 z), fun z => g.2 (h.2 z)⟩
abbrev SqQ (K : PySem.W.Frag) (H : Hp) (a : Addr) (xs : List V) : Prop := SqL K H a xs ∨ SqT K H a xs
theorem Kp.q {a : Addr} {xs : List V} {H2 : Hp} (h : Kp K a xs H H2) (z : SqQ K H a xs) : SqQ K H2 a xs := z.elim (fun z => .inl (h.1 z)) fun z => .inr (h.2 z)
theorem sqq0 {a : Addr} {xs : List V} {H2 : Hp} (e : Ext [] H H2) (h : SqQ K H a xs) : SqQ K H2 a xs := (kp0 e).q h
theorem r_lcQ {i : Nat} {a : Addr} {xs : List V} {Qd : Addr → Hp → Prop} {H0 : Hp} (h1 : σ[i]? = some (some (.ref a))) (h2 : SqQ K H0 a xs) (hk : Kp K a xs H0 H) (h : ∀ D, H D = none → ∃ Pv : Nat → Hp → Prop, Pv 0 (upd H D (.lst [])) ∧ (∀ j H2, Pv j H2 → Kp K a xs H0 H2) ∧
    (∀ j x H, xs[j]? = some x → Pv j H → g x (wipe σ vs) H fun σ2 H2 => wipe σ2 vs = wipe σ vs ∧ tt σ2 H2 fun b H3 =>
      if b = true then te σ2 H3 fun y H4 => ∃ acc, H4 D = some (.lst acc) ∧ acc.length < sizeLine ∧ Pv (j + 1) (upd H4 D (.lst (acc ++ [y]))) else Pv (j + 1) H3) ∧ ∀ H, Pv xs.length H → Qd D H) :
    iSeq K (tVar i) σ H fun J H1 => ∀ D, H1 D = none → ∃ W : Nat → Nat → Hp → Prop, (∃ m, W 0 m (upd H1 D (.lst []))) ∧ ∀ i m H, W i m H →
      (J.stop i H ∧ Qd D H) ∨ (J.go i H ∧ ∃ Nx : Hp → Prop, (∀ H', Nx H' → ∃ m', m' < m ∧ W (i + 1) m' H') ∧ ∀ x H', J.yld i H x H' → g x (wipe σ vs) H' fun σ2 H2 => wipe σ2 vs = wipe σ vs ∧ tt σ2 H2 fun b H3 =>
        if b = true then te σ2 H3 fun y H4 => ∃ acc, H4 D = some (.lst acc) ∧ acc.length < sizeLine ∧ Nx (upd H4 D (.lst (acc ++ [y]))) else Nx H3) := by
  rcases h2 with h2 | h2
  · refine Or.inl ⟨_, h1, a, rfl, ⟨xs, hk.1 h2⟩, fun D hD => ?_⟩
    obtain ⟨Pv, p0, pk, ps, pd⟩ := h D hD
    exact lc_list (Qd := Qd D) Pv p0 (fun j H2 _ p => (pk j H2 p).1 h2) ps pd
  · refine Or.inr ⟨_, h1, a, rfl, ⟨xs, hk.2 h2⟩, fun D hD => ?_⟩
    obtain ⟨Pv, p0, pk, ps, pd⟩ := h D hD
    exact lc_tup (Qd := Qd D) Pv p0 (fun j H2 _ p => (pk j H2 p).2 h2) ps pd
theorem r_forQ {i : Nat} {a : Addr} {xs : List V} {H0 : Hp} (h1 : σ[i]? = some (some (.ref a))) (h2 : SqQ K H0 a xs) (hk : Kp K a xs H0 H) (Pv : Nat → L2.St → Hp → Prop) (h0 : Pv 0 σ H) (hl : ∀ i σ H2, i ≤ xs.length → Pv i σ H2 → Kp K a xs H0 H2)
    (hs : ∀ i x σ H, xs[i]? = some x → Pv i σ H → g x σ H fun σ2 H2 => t ⟨Pv (i + 1), rt, nx, Pv (i + 1)⟩ σ2 H2) (hd : ∀ σ H, Pv xs.length σ H → nx σ H) : tFor (iSeq K (tVar i)) g t ⟨nx, rt, bk, ct⟩ σ H := by
  rcases h2 with h2 | h2
  · exact Or.inl ⟨_, h1, a, rfl, ⟨xs, hk.1 h2⟩, for_list (D := ⟨nx, rt, nx, nx⟩) Pv h0 (fun i σ H2 z p => (hl i σ H2 z p).1 h2) hs hd⟩
  · exact Or.inr ⟨_, h1, a, rfl, ⟨xs, hk.2 h2⟩, for_tup (D := ⟨nx, rt, nx, nx⟩) Pv h0 (fun i σ H2 z p => (hl i σ H2 z p).2 h2) hs hd⟩
end
/-! rows that go together -/
section
variable {α β : Type}
def Rel (R : V → α → Prop) (xs : List V) (rs : List α) : Prop := xs.length = rs.length ∧ ∀ (i : Nat) (v : V) (r : α), xs[i]? = some v → rs[i]? = some r → R v r
variable {R R' : V → α → Prop} {xs ys : List V} {rs ts : List α}
theorem Rel.nil : Rel R [] [] := ⟨rfl, fun i v q h => by simp at h⟩
theorem Rel.cons {v : V} {r : α} (h : R v r) (g : Rel R xs rs) : Rel R (v :: xs) (r :: rs) := by
  refine ⟨by simp [g.1], fun i w u a b => ?_⟩
  cases i with
  | zero =>
    simp at a b
    subst a b
    exact h
  | succ i =>
    simp at a b
    exact g.2 i w u a b
theorem Rel.imp (h : Rel R xs rs) (f : ∀ v r, R v r → R' v r) : Rel R' xs rs := ⟨h.1, fun i v r a b => f v r (h.2 i v r a b)⟩
theorem Rel.impM (h : Rel R xs rs) (f : ∀ v r, r ∈ rs → R v r → R' v r) : Rel R' xs rs := ⟨h.1, fun i v r a b => f v r (List.mem_of_getElem? b) (h.2 i v r a b)⟩
theorem Rel.at_ (h : Rel R xs rs) {i : Nat} {v : V} (hv : xs[i]? = some v) : ∃ r, rs[i]? = some r ∧ R v r := by
  have hi : i < rs.length := by rw [← h.1]; exact (List.getElem?_eq_some_iff.mp hv).1
  exact ⟨rs[i], List.getElem?_eq_getElem hi, h.2 i v _ hv (List.getElem?_eq_getElem hi)⟩
theorem Rel.app (h : Rel R xs rs) (g : Rel R ys ts) : Rel R (xs ++ ys) (rs ++ ts) := by
  refine ⟨by rw [List.length_append, List.length_append, h.1, g.1], fun j v q a b => ?_⟩
  by_cases hj : j < xs.length
  · rw [List.getElem?_append_left hj] at a
    rw [List.getElem?_append_left (by rw [← h.1]; exact hj)] at b
    exact h.2 j v q a b
  · rw [List.getElem?_append_right (by omega)] at a
    rw [List.getElem?_append_right (by rw [← h.1]; omega), ← h.1] at b
    exact g.2 _ v q a b
theorem Rel.hd {v : V} {r : α} (h : Rel R (v :: xs) (r :: rs)) : R v r := h.2 0 v r rfl rfl
theorem Rel.tl {v : V} {r : α} (h : Rel R (v :: xs) (r :: rs)) : Rel R xs rs := ⟨by simpa using h.1, fun i w u a b => h.2 (i + 1) w u (by simpa using a) (by simpa using b)⟩
theorem Rel.cases {v : V} (h : Rel R (v :: xs) rs) : ∃ r t, rs = r :: t ∧ R v r ∧ Rel R xs t := by
  cases rs with
  | nil => exact absurd h.1 (by simp)
  | cons r t => exact ⟨r, t, rfl, h.hd, h.tl⟩
theorem Rel.take (h : Rel R xs rs) (n : Nat) : Rel R (xs.take n) (rs.take n) := by
  refine ⟨by rw [List.length_take, List.length_take, h.1], fun j v q a b => ?_⟩
  rw [List.getElem?_take] at a b
  split at a
  · rename_i hj
    rw [if_pos hj] at b
    exact h.2 j v q a b
  · cases a
theorem Rel.drop (h : Rel R xs rs) (n : Nat) : Rel R (xs.drop n) (rs.drop n) := by
  refine ⟨by rw [List.length_drop, List.length_drop, h.1], fun j v q a b => ?_⟩
  rw [List.getElem?_drop] at a b
  exact h.2 _ v q a b
theorem Rel.perm (p : ys.Perm xs) : ∀ {rs : List α}, Rel R xs rs → ∃ ts, Rel R ys ts ∧ ts.Perm rs := by
  induction p with
  | nil => exact fun {rs} h => ⟨rs, h, List.Perm.refl _⟩
  | cons x _ ih =>
    intro rs h
    obtain ⟨r, t, rfl, a, b⟩ := h.cases
    obtain ⟨ts, c, d⟩ := ih b
    exact ⟨r :: ts, .cons a c, d.cons r⟩
  | swap x y l =>
    intro rs h
    obtain ⟨r1, t, rfl, a, b⟩ := h.cases
    obtain ⟨r2, t, rfl, c, d⟩ := b.cases
    exact ⟨r2 :: r1 :: t, .cons c (.cons a d), List.Perm.swap r1 r2 t⟩
  | trans _ _ ih1 ih2 =>
    intro rs h
    obtain ⟨ts, a, b⟩ := ih2 h
    obtain ⟨us, c, d⟩ := ih1 a
    exact ⟨us, c, d.trans b⟩
theorem Rel.snoc {v : V} {r : α} (h : Rel R xs rs) (g : R v r) : Rel R (xs ++ [v]) (rs ++ [r]) := h.app (.cons g .nil)
end
/-! steps -/
section
variable {K : PySem.W.Frag} {nx : L2.St → Hp → Prop} {rt : VK} {bk ct : L2.St → Hp → Prop} {σ : L2.St} {H : Hp} {Q : VK} {te : TE} {x y : V}
theorem r_app {l : Addr} {xs : List V} (h1 : H l = some (.lst xs)) (h2 : xs.length ≤ 4000) (h : Q .non (upd H l (.lst (xs ++ [y])))) : rAppend (.ref l) [y] H Q := ⟨l, xs, y, rfl, rfl, h1, Nat.lt_of_le_of_lt h2 (by decide), h⟩
theorem ty_lst {l : Addr} {xs : List V} (h : H l = some (.lst xs)) : tyV K "list" (.ref l) H := .inl ⟨rfl, xs, .inl (.inl h)⟩
theorem r_aug {i : Nat} {ti : TIp} (h1 : σ[i]? = some (some x)) (h : te σ H fun y H1 => ti x y H1 fun z H2 => nx (σ.set i (some z)) H2) : tAug i te ti ⟨nx, rt, bk, ct⟩ σ H := ⟨x, h1, h⟩
theorem r_ipI {f : Int → Int → Int} {i j : Int} {R : V → Hp → Prop} (h : R (.int (f i j)) H) : ipI f (.int i) (.int j) H R := ⟨i, j, rfl, rfl, h⟩
theorem cut_drop {xs : List V} {n : Nat} (h : n ≤ xs.length) : cutV xs (some (n : Int)) none = xs.drop n := by
  have e : HT.sIx xs.length 0 (some (n : Int)) = n := by rw [HT.sIx_nat]; exact Nat.min_eq_left h
  have e2 : HT.sIx xs.length xs.length none = xs.length := rfl
  unfold cutV
  rw [e, e2]
  exact List.take_of_length_le (by simp)
theorem cut_take {xs : List V} {n : Nat} (h : n ≤ xs.length) : cutV xs none (some (n : Int)) = xs.take n := by
  have e : HT.sIx xs.length xs.length (some (n : Int)) = n := by rw [HT.sIx_nat]; exact Nat.min_eq_left h
  have e2 : HT.sIx xs.length 0 none = 0 := rfl
  unfold cutV
  rw [e, e2]
  simp
end
section
theorem ixN_at {n j : Nat} {i : Int} (h : i = (j : Int)) (hj : j < n) : ixN n i = some j := by
  unfold ixN
  rw [if_pos (by omega), if_pos (by omega), h, Int.toNat_natCast]
theorem at0 {v : V} {xs : List V} : atI (v :: xs) 0 = some v := atI_nat (j := 0) rfl
theorem at1 {v w : V} {xs : List V} : atI (v :: w :: xs) 1 = some w := atI_nat (j := 1) rfl
theorem at_n {v : V} {xs : List V} {n : Nat} {i : Int} (hi : i = (n : Int)) (h : xs[n]? = some v) : atI xs i = some v := by rw [hi]; exact atI_nat h
end
theorem r_ndec {p : Prop} [Decidable p] {A B : Prop} (h1 : ¬ p → A) (h2 : p → B) : if (!decide p) = true then A else B := by
  by_cases hp : p
  · rw [decide_eq_true hp, if_neg (by decide)]; exact h2 hp
  · rw [decide_eq_false hp, if_pos (by decide)]; exact h1 hp
def rTs (K : PySem.W.Frag) : List V → Hp → VK → Prop := fun xs H Q => ∃ p ys, xs = [.ref p] ∧ ((SqL K H p ys ∧ ∀ l, H l = none → Q (.ref l) (upd H l (.tup ys))) ∨ (SqT K H p ys ∧ Q (.ref p) H))
theorem cr_tuple {X : Cx} : CallR X (.type "tuple") (rTs X.K) := call_tuple_of
theorem r_tupleL {K : PySem.W.Frag} {H : Hp} {Q : VK} {p : Addr} {ys : List V} (h : SqL K H p ys) (k : ∀ l, H l = none → Q (.ref l) (upd H l (.tup ys))) : rTs K [.ref p] H Q := ⟨p, ys, rfl, .inl ⟨h, k⟩⟩
end Yk

set_option maxHeartbeats 1000000
/-! Calls by place and by name, in any order; data that stands clear of some addresses. -/
namespace Yk
open PySem PySem.Spec PyProof.Rows L2
/-- the parameters' values: the i-th is the idx[i]-th of all that are passed -/
def arr {α : Type} (m n : Nat) (idx : List Nat) (us ws : List α) : List α := if us.length = m ∧ ws.length = n then idx.filterMap fun i => (us ++ ws)[i]? else []
theorem Vals.app {vs zs : List V} {us ws : List Value} (h : Vals vs us) (g : Vals zs ws) : Vals (vs ++ zs) (us ++ ws) := by
  induction h with
  | nil => exact g
  | cons a _ ih => exact .cons a ih
theorem Vals.get {vs : List V} {us : List Value} (h : Vals vs us) : ∀ i : Nat, (vs[i]? = none ∧ us[i]? = none) ∨ ∃ v u, vs[i]? = some v ∧ us[i]? = some u ∧ RelV v u := by
  induction h with
  | nil => intro i; exact .inl ⟨rfl, rfl⟩
  | cons a _ ih =>
    intro i
    cases i with
    | zero => exact .inr ⟨_, _, rfl, rfl, a⟩
    | succ i => exact ih i
theorem Vals.pick {vs : List V} {us : List Value} (h : Vals vs us) : ∀ idx : List Nat, Vals (idx.filterMap fun i => vs[i]?) (idx.filterMap fun i => us[i]?)
  | [] => .nil
  | i :: idx => by
    rcases Vals.get h i with ⟨a, b⟩ | ⟨v, u, a, b, r⟩
    · rw [List.filterMap_cons_none a, List.filterMap_cons_none b]
      exact Vals.pick h idx
    · rw [List.filterMap_cons_some a, List.filterMap_cons_some b]
      exact .cons r (Vals.pick h idx)
theorem arr_rel {m n : Nat} {idx : List Nat} {vs : List V} {us : List Value} {zs : List V} {ws : List Value} (h1 : Vals vs us) (h2 : Vals zs ws) : Vals (arr m n idx vs zs) (arr m n idx us ws) := by
  unfold arr
  rw [h1.length, h2.length]
  split
  · exact Vals.pick (Vals.app h1 h2) idx
  · exact .nil
section
variable (P : Program) (w : World) (K : PySem.W.Frag) (mg : Str → Option Value) (base : Heap)
structure FnX (k : Nat) (x : Str) (m : Nat) (ks : List Str) (idx : List Nat) (sp : Sp) : Prop where
  run : ∃ f fd ps, mg x = some (.ref f) ∧ PySem.W.keepIn K (.ref f) = true ∧ FnOk P w K mg base CX0 k f fd ps sp ∧ KBinds K fd ps ks (arr m ks.length idx) (arr m ks.length idx)
end
section
variable {P : Program} {w : World} {K : PySem.W.Frag} {mg : Str → Option Value} {base : Heap} {f : Addr} {fd : FuncData}
theorem fx_of_ok {x : Str} {params : Arguments} {body : List Stmt} {scope : Scope} {ps : List Str} {k : Nat} {sp : Sp} (m : Nat) (ks : List Str) (idx : List Nat)
    (F : FunD K x x params body scope [] [] f fd) (hm : mg x = some (.ref f)) (G : FnOk P w K mg base CX0 k f fd ps sp) (h0 : 0 < ps.length)
    (hb : ∀ (kV doc pm : Value) (an : Option Addr) (cdv ct : Value) (us ws : List Value), us.length = m → ws.length = ks.length → bindArgs (PySem.W.fnOf x x params body scope .none kV doc pm an cdv ct) ⟨us, ks.zip ws⟩ = pure (ps.zip (arr m ks.length idx us ws))) : FnX P w K mg base k x m ks idx sp := by
  refine ⟨f, fd, ps, hm, F.kp, G, ⟨fun s us ws hK hl => ?_, arr_rel⟩⟩
  obtain ⟨oc, od, dV, kV, doc, pm, an, cdv, ct, osl, rfl, lk, hcd, hD, _⟩ := F.ex
  rcases hD with ⟨_, rfl⟩ | ⟨e, _⟩
  · by_cases hc : us.length = m ∧ ws.length = ks.length
    · exact .of_eq (hb kV doc pm an cdv ct us ws hc.1 hc.2)
    · have e : arr m ks.length idx us ws = [] := if_neg hc
      rw [e] at hl
      exact absurd hl (by show (0 : Nat) ≠ ps.length; omega)
  · exact absurd rfl e
end
section
variable {X : Cx} {k m : Nat} {sp : Sp} {x : Str} {p pos : Pos} {ks : List Str} {idx : List Nat} {kws : List Keyword} {e : Expr} {es : List Expr} {t tk : TA}
def tRX (m n : Nat) (idx : List Nat) (sp : Sp) (t tk : TA) : TE := fun σ H Q => t σ H fun vs H1 => tk σ H1 fun zs H2 => ∃ us, us = arr m n idx vs zs ∧ sp us H2 Q E0
theorem r_RX {n : Nat} {σ : L2.St} {H : Hp} {Q : VK} (h : t σ H fun vs H1 => tk σ H1 fun zs H2 => ∃ us, us = arr m n idx vs zs ∧ sp us H2 Q E0) : tRX m n idx sp t tk σ H Q := h
theorem pe_fnX (F : FnX X.prog X.w X.K X.mg X.base k x m ks idx sp) (hr : Room k X.A) (ha : PA X (e :: es) t) (hkw : PK X kws tk) (hg : Gl X x := by rfl) (hdb : (x == ("__debug__" : Str)) = false := by decide)
    (hx : Passes CX0 X E0 := by exact pass0)
    (hall : (backToKw pos (keywordEach kws X.env)).all (·.1.isSome) = true := by rfl) (hks : (backToKw pos (keywordEach kws X.env)).filterMap (·.1) = ks := by rfl)
    (he : starEach (e :: es) X.env = (false, eval e X.env) :: starEach es X.env := by rfl)
    (hpl : ((backTo pos (starEach (e :: es) X.env)).any (·.1) || (backToKw pos (keywordEach kws X.env)).any (·.1.isNone)) = false := by rfl) :
    PE X (.Call (.Name x p) (e :: es) kws pos) (tRX m ks.length idx sp t tk) := by
  obtain ⟨f, fd, ps, hm, hk, F, hb⟩ := F.run
  refine ⟨fun pins s σ H Q I h => ?_⟩
  refine wpAny_Call_Name_kw (ld_glob I hg hm ?_ hdb)
  refine PySem.W.callWith_KW (h₀ := X.base) I.ok.mod.kin hk hall (thn (ha.run pos pins s σ H _ I h) fun us s1 ⟨vs, H1, I1, r, q⟩ => ?_) hpl he
  refine thn (hkw.run pos pins s1 σ H1 _ I1 q) fun ws s2 ⟨zs, H2, I2, rz, us', e, q2⟩ => ⟨I2.kIn, ?_⟩
  rw [hks]
  subst e
  exact run_fnk F hr hb hx I2 r rz q2
theorem pe_fnX0 (F : FnX X.prog X.w X.K X.mg X.base k x m ks idx sp) (hr : Room k X.A) (hkw : PK X kws tk) (hg : Gl X x := by rfl) (hdb : (x == ("__debug__" : Str)) = false := by decide)
    (hx : Passes CX0 X E0 := by exact pass0)
    (hall : (backToKw pos (keywordEach kws X.env)).all (·.1.isSome) = true := by rfl) (hks : (backToKw pos (keywordEach kws X.env)).filterMap (·.1) = ks := by rfl)
    (hpl : ((backTo pos (starEach [] X.env)).any (·.1) || (backToKw pos (keywordEach kws X.env)).any (·.1.isNone)) = false := by rfl) :
    PE X (.Call (.Name x p) [] kws pos) (tRX m ks.length idx sp tNil tk) := by
  obtain ⟨f, fd, ps, hm, hk, F, hb⟩ := F.run
  refine ⟨fun pins s σ H Q I h => ?_⟩
  refine wpAny_Call_Name_kw (ld_glob I hg hm ?_ hdb)
  refine PySem.W.callWith_KW0 (h₀ := X.base) I.ok.mod.kin hk hall ?_ hpl
  refine thn (hkw.run pos pins s σ H _ I h) fun ws s2 ⟨zs, H2, I2, rz, us, e, q2⟩ => ⟨I2.kIn, ?_⟩
  rw [hks]
  subst e
  exact run_fnk (us := []) (vs := []) F hr hb hx I2 .nil rz q2
end
/-! data clear of S -/
mutual
inductive Dq (K : PySem.W.Frag) (S : List Addr) (H : Hp) : V → PyData → Prop
  | non : Dq K S H .non .none
  | bl (b : Bool) : Dq K S H (.bl b) (.bool b)
  | int (i : Int) : Dq K S H (.int i) (.int i)
  | str (x : Str) : Dq K S H (.str x) (.str x)
  | lst {a : Addr} {xs : List V} {ds : List PyData} : a ∉ S → SqL K H a xs → DqAll K S H xs ds → Dq K S H (.ref a) (.list ds)
  | tup {a : Addr} {xs : List V} {ds : List PyData} : SqT K H a xs → DqAll K S H xs ds → Dq K S H (.ref a) (.tuple ds)
inductive DqAll (K : PySem.W.Frag) (S : List Addr) (H : Hp) : List V → List PyData → Prop
  | nil : DqAll K S H [] []
  | cons {v : V} {vs : List V} {d : PyData} {ds : List PyData} : Dq K S H v d → DqAll K S H vs ds → DqAll K S H (v :: vs) (d :: ds)
end
section
variable {K : PySem.W.Frag} {S T : List Addr} {H H1 : Hp}
mutual
theorem Dq.x (e : Ext T H H1) (hT : ∀ x ∈ T, x ∈ S) (hs : ∀ b ∈ T, ∃ l, H b = some (.lst l)) : ∀ {v : V} {d : PyData}, Dq K S H v d → Dq K S H1 v d
  | _, _, .non => .non
  | _, _, .bl b => .bl b
  | _, _, .int i => .int i
  | _, _, .str z => .str z
  | _, _, .lst na h g => .lst na (lstX e h fun q => na (hT _ q)) (DqAll.x e hT hs g)
  | _, _, .tup h g => .tup (tupX e h hs) (DqAll.x e hT hs g)
theorem DqAll.x (e : Ext T H H1) (hT : ∀ x ∈ T, x ∈ S) (hs : ∀ b ∈ T, ∃ l, H b = some (.lst l)) : ∀ {vs : List V} {ds : List PyData}, DqAll K S H vs ds → DqAll K S H1 vs ds
  | _, _, .nil => .nil
  | _, _, .cons h g => .cons (Dq.x e hT hs h) (DqAll.x e hT hs g)
end
mutual
theorem Dq.dp : ∀ {v : V} {d : PyData}, Dq K S H v d → Dp K H v d
  | _, _, .non => .non
  | _, _, .bl b => .bl b
  | _, _, .int i => .int i
  | _, _, .str z => .str z
  | _, _, .lst _ h g => .lst h (DqAll.dp g)
  | _, _, .tup h g => .tup h (DqAll.dp g)
theorem DqAll.dp : ∀ {vs : List V} {ds : List PyData}, DqAll K S H vs ds → DpAll K H vs ds
  | _, _, .nil => .nil
  | _, _, .cons h g => .cons (Dq.dp h) (DqAll.dp g)
end
theorem Dq.x0 (e : Ext [] H H1) {v : V} {d : PyData} (h : Dq K S H v d) : Dq K S H1 v d := h.x e (fun _ z => nomatch z) (fun _ z => nomatch z)
theorem DqAll.x0 (e : Ext [] H H1) {v : List V} {d : List PyData} (h : DqAll K S H v d) : DqAll K S H1 v d := h.x e (fun _ z => nomatch z) (fun _ z => nomatch z)
theorem DqAll.app : ∀ {vs ws : List V} {ds es : List PyData}, DqAll K S H vs ds → DqAll K S H ws es → DqAll K S H (vs ++ ws) (ds ++ es)
  | _, _, _, _, .nil, g => g
  | _, _, _, _, .cons h r, g => .cons h (DqAll.app r g)
theorem DqAll.get : ∀ {vs : List V} {ds : List PyData} {i : Nat} {v : V}, DqAll K S H vs ds → vs[i]? = some v → ∃ d, ds[i]? = some d ∧ Dq K S H v d
  | _, _, 0, _, .cons h _, e => by cases e; exact ⟨_, rfl, h⟩
  | _, _, i + 1, _, .cons _ r, e => DqAll.get (i := i) r e
  | _, _, 0, _, .nil, e => by cases e
  | _, _, _ + 1, _, .nil, e => by cases e
end
end Yk

/-! Rational numbers: what the program's reckoning in lowest terms is worth. -/
namespace Yk
/-- the sum in lowest terms, as the program reckons it -/
theorem add_low (a b : Rat) : (a + b).num = (a.num * ((b.den / Nat.gcd a.den b.den : Nat) : Int) + b.num * ((a.den / Nat.gcd a.den b.den : Nat) : Int)) / ((Nat.gcd (a.num * ((b.den / Nat.gcd a.den b.den : Nat) : Int) + b.num * ((a.den / Nat.gcd a.den b.den : Nat) : Int)).natAbs (Nat.gcd a.den b.den) : Nat) : Int)
    ∧ (a + b).den = a.den / Nat.gcd a.den b.den * (b.den / Nat.gcd (a.num * ((b.den / Nat.gcd a.den b.den : Nat) : Int) + b.num * ((a.den / Nat.gcd a.den b.den : Nat) : Int)).natAbs (Nat.gcd a.den b.den)) := by
  have e : a + b = Rat.add a b := rfl
  rw [e]
  unfold Rat.add
  dsimp only
  by_cases hg : Nat.gcd a.den b.den = 1
  · rw [dif_pos hg]
    simp [hg]
  · rw [dif_neg hg]
    have hmn : ∀ (num : Int) (den g : Nat) (h1 : (g : Int) ∣ num) (h2 : g ∣ den) (h3) (h4), (Rat.maybeNormalize num den g h1 h2 h3 h4).num = num / (g : Int) ∧ (Rat.maybeNormalize num den g h1 h2 h3 h4).den = den / g := by
      intro num den g h1 h2 h3 h4
      unfold Rat.maybeNormalize
      split
      · rename_i q
        subst q
        simp
      · exact ⟨by simp [Int.divExact], by simp [Nat.divExact]⟩
    obtain ⟨e1, e2⟩ := hmn _ _ _ _ _ _ _
    refine ⟨e1, ?_⟩
    rw [e2]
    have hd : Nat.gcd (a.num * ((b.den / Nat.gcd a.den b.den : Nat) : Int) + b.num * ((a.den / Nat.gcd a.den b.den : Nat) : Int)).natAbs (Nat.gcd a.den b.den) ∣ b.den := Nat.dvd_trans (Nat.gcd_dvd_right _ _) (Nat.gcd_dvd_right _ _)
    exact Nat.mul_div_assoc _ hd
theorem mul_low (a b : Rat) : (a * b).num = a.num / ((Nat.gcd a.num.natAbs b.den : Nat) : Int) * (b.num / ((Nat.gcd b.num.natAbs a.den : Nat) : Int)) ∧ (a * b).den = a.den / Nat.gcd b.num.natAbs a.den * (b.den / Nat.gcd a.num.natAbs b.den) := by
  have e : a * b = Rat.mul a b := rfl
  rw [e]
  unfold Rat.mul
  simp [Int.divExact, Nat.divExact]
/-- size: both numbers below 2 ^ n -/
def Sz (n : Nat) (q : Rat) : Prop := q.num.natAbs < 2 ^ n ∧ q.den < 2 ^ n
theorem Sz.mono {m n : Nat} {q : Rat} (h : Sz m q) (e : m ≤ n) : Sz n q := ⟨Nat.lt_of_lt_of_le h.1 (Nat.pow_le_pow_right (by decide) e), Nat.lt_of_lt_of_le h.2 (Nat.pow_le_pow_right (by decide) e)⟩
theorem sz_mk {n : Nat} {q : Rat} {a : Int} {b : Nat} (hb : 0 < b) (e : q = mkRat a b) (h1 : a.natAbs < 2 ^ n) (h2 : b < 2 ^ n) : Sz n q := by
  subst e
  constructor
  · rw [Rat.num_mkRat, if_neg (by omega)]
    have hd : ((Nat.gcd b a.natAbs : Nat) : Int) ∣ a := Int.natAbs_dvd_natAbs.mp (by simpa using Nat.gcd_dvd_right b a.natAbs)
    rw [Int.natAbs_ediv_of_dvd hd]
    refine Nat.lt_of_le_of_lt (Nat.div_le_self _ _) h1
  · rw [Rat.den_mkRat, if_neg (by omega)]
    exact Nat.lt_of_le_of_lt (Nat.div_le_self _ _) h2
theorem sz_add {m n : Nat} {a b : Rat} (ha : Sz m a) (hb : Sz n b) : Sz (m + n + 1) (a + b) := by
  have h1 : (a.num * (b.den : Int)).natAbs < 2 ^ (m + n) := by
    rw [Int.natAbs_mul, Nat.pow_add]
    exact Nat.mul_lt_mul'' ha.1 (by simpa using hb.2)
  have h2 : (b.num * (a.den : Int)).natAbs < 2 ^ (m + n) := by
    rw [Int.natAbs_mul, Nat.pow_add, Nat.mul_comm]
    exact Nat.mul_lt_mul'' (by simpa using ha.2) hb.1
  have h3 : 2 ^ (m + n + 1) = 2 ^ (m + n) + 2 ^ (m + n) := by rw [Nat.pow_succ]; omega
  refine sz_mk (a := a.num * b.den + b.num * a.den) (b := a.den * b.den) (Nat.mul_pos a.den_pos b.den_pos) ?_ ?_ ?_
  · rw [Rat.add_def, Rat.normalize_eq_mkRat]
  · have := Int.natAbs_add_le (a.num * (b.den : Int)) (b.num * (a.den : Int))
    omega
  · have h4 : a.den * b.den < 2 ^ m * 2 ^ n := Nat.mul_lt_mul'' ha.2 hb.2
    rw [← Nat.pow_add] at h4
    omega
theorem sz_mul {m n : Nat} {a b : Rat} (ha : Sz m a) (hb : Sz n b) : Sz (m + n) (a * b) := by
  refine sz_mk (a := a.num * b.num) (b := a.den * b.den) (Nat.mul_pos a.den_pos b.den_pos) ?_ ?_ ?_
  · rw [Rat.mul_def, Rat.normalize_eq_mkRat]
  · rw [Int.natAbs_mul, Nat.pow_add]
    exact Nat.mul_lt_mul'' ha.1 hb.1
  · rw [Nat.pow_add]
    exact Nat.mul_lt_mul'' ha.2 hb.2
theorem sz_neg {n : Nat} {a : Rat} (h : Sz n a) : Sz n (-a) := by
  refine ⟨?_, ?_⟩
  · rw [Rat.neg_num, Int.natAbs_neg]; exact h.1
  · exact h.2
theorem sz_inv {n : Nat} {a : Rat} (h : Sz n a) (h0 : 0 < a) : Sz n a⁻¹ := by
  have h1 : 0 < a.num := by
    have := (Rat.lt_iff 0 a).mp h0
    simpa using this
  refine ⟨?_, ?_⟩
  · rw [Rat.num_inv, Int.sign_eq_one_of_pos h1, Int.one_mul]
    simpa using h.2
  · rw [Rat.den_inv, if_neg (by omega)]
    exact h.1
theorem num_pos' {q : Rat} (h : 0 < q) : 0 < q.num := by
  have := (Rat.lt_iff 0 q).mp h
  simpa using this
theorem num_nn {q : Rat} (h : 0 ≤ q) : 0 ≤ q.num := Rat.num_nonneg.mpr h
theorem inv_parts {q : Rat} (h : 0 < q) : q⁻¹.num = (q.den : Int) ∧ (q⁻¹.den : Int) = q.num := by
  have h1 := num_pos' h
  refine ⟨?_, ?_⟩
  · rw [Rat.num_inv, Int.sign_eq_one_of_pos h1, Int.one_mul]
  · rw [Rat.den_inv, if_neg (by omega)]
    omega
/-- two numbers in lowest terms -/
theorem mk_parts (a b : Nat) (hb : 0 < b) : (mkRat (a : Int) b).num = ((a / Nat.gcd a b : Nat) : Int) ∧ (mkRat (a : Int) b).den = b / Nat.gcd a b := by
  rw [Rat.num_mkRat, Rat.den_mkRat, if_neg (by omega), if_neg (by omega)]
  simp [Nat.gcd_comm]
theorem mk_nn (a b : Nat) : 0 ≤ mkRat (a : Int) b := by
  rcases Nat.eq_zero_or_pos b with h | h
  · subst h; simp
  · have e := (mk_parts a b h).1
    have : 0 ≤ (mkRat (a : Int) b).num := by rw [e]; exact Int.natCast_nonneg _
    exact Rat.num_nonneg.mp this
end Yk
namespace Yk
theorem add_int (p q : Rat) : (p + q).num = (p.num * ((q.den : Int) / ((Nat.gcd p.den q.den : Nat) : Int)) + q.num * ((p.den : Int) / ((Nat.gcd p.den q.den : Nat) : Int))) / ((Nat.gcd (p.num * ((q.den : Int) / ((Nat.gcd p.den q.den : Nat) : Int)) + q.num * ((p.den : Int) / ((Nat.gcd p.den q.den : Nat) : Int))).natAbs (Nat.gcd p.den q.den) : Nat) : Int)
    ∧ ((p + q).den : Int) = (p.den : Int) / ((Nat.gcd p.den q.den : Nat) : Int) * ((q.den : Int) / ((Nat.gcd (p.num * ((q.den : Int) / ((Nat.gcd p.den q.den : Nat) : Int)) + q.num * ((p.den : Int) / ((Nat.gcd p.den q.den : Nat) : Int))).natAbs (Nat.gcd p.den q.den) : Nat) : Int)) := by
  obtain ⟨h1, h2⟩ := add_low p q
  constructor
  · rw [h1]
    simp only [Int.natCast_ediv]
  · rw [h2]
    simp only [Int.natCast_ediv, Int.natCast_mul]
theorem mul_int' (p q : Rat) : (p * q).num = p.num / ((Nat.gcd p.num.natAbs q.den : Nat) : Int) * (q.num / ((Nat.gcd q.num.natAbs p.den : Nat) : Int)) ∧ ((p * q).den : Int) = (p.den : Int) / ((Nat.gcd q.num.natAbs p.den : Nat) : Int) * ((q.den : Int) / ((Nat.gcd p.num.natAbs q.den : Nat) : Int)) := by
  obtain ⟨h1, h2⟩ := mul_low p q
  refine ⟨h1, ?_⟩
  rw [h2]
  simp only [Int.natCast_ediv, Int.natCast_mul]
theorem abs_div_le (a b : Int) (hb : 0 < b) : (a / b).natAbs ≤ a.natAbs := by
  have h1 := Int.natAbs_ediv_le_natAbs a b
  exact h1
end Yk
namespace Yk
def cmpQ' (p q : Rat) : Int := if p < q then -1 else if q < p then 1 else 0
theorem cmp_add (p q r : Rat) : cmpQ' (p + r) (q + r) = cmpQ' p q := by
  unfold cmpQ'
  have h1 : p + r < q + r ↔ p < q := Rat.add_lt_add_right
  have h2 : q + r < p + r ↔ q < p := Rat.add_lt_add_right
  simp only [h1, h2]
theorem cmp_more (p r : Rat) (hr : 0 ≤ r) : cmpQ' (p + r) p = if 0 < r then 1 else 0 := by
  unfold cmpQ'
  by_cases h : 0 < r
  · rw [if_neg (by grind), if_pos (by grind), if_pos h]
  · rw [if_neg (by grind), if_neg (by grind), if_neg h]
theorem cmp_mul (p q r : Rat) (hr : 0 ≤ r) : cmpQ' (p * r) (r * q) = if 0 < r then cmpQ' p q else 0 := by
  rw [Rat.mul_comm r q]
  unfold cmpQ'
  by_cases h : 0 < r
  · have h1 : p * r < q * r ↔ p < q := Rat.mul_lt_mul_right h
    have h2 : q * r < p * r ↔ q < p := Rat.mul_lt_mul_right h
    simp only [h1, h2, if_pos h]
  · have e : r = 0 := by grind
    subst e
    simp
theorem add_nn {a b : Rat} (h1 : 0 ≤ a) (h2 : 0 ≤ b) : 0 ≤ a + b := Rat.add_nonneg h1 h2
theorem mul_nn {a b : Rat} (h1 : 0 ≤ a) (h2 : 0 ≤ b) : 0 ≤ a * b := Rat.mul_nonneg h1 h2
theorem r_sub1 (p q : Rat) : p + q - q = p := by grind
theorem r_sub2 (p q r : Rat) : p + q + r - (r + q) = p := by grind
theorem r_sub3 (p : Rat) : p - p = 0 := by grind
theorem r_div1 {p q : Rat} (h : 0 < q) : p * q / q = p := by grind
theorem r_div2 {p q : Rat} (h : 0 < q) : p / q * q = p := by grind
theorem r_div3 {q : Rat} (h : 0 < q) : q / q = 1 := by grind
theorem r_dist (p q r : Rat) : p * q + p * r = p * (q + r) := by grind
theorem le1 {p q : Rat} (h : 0 ≤ p) : q ≤ p + q := by grind
theorem le2 {p q r : Rat} (h : 0 ≤ p) : r + q ≤ p + q + r := by grind
theorem num_pos_iff {r : Rat} (h : 0 ≤ r) : 0 < r.num ↔ 0 < r := by
  constructor
  · intro h1
    exact (Rat.lt_iff 0 r).mpr (by simpa using h1)
  · exact num_pos'
theorem sz_div {m n : Nat} {a b : Rat} (ha : Sz m a) (hb : Sz n b) (h : 0 < b) : Sz (m + n) (a / b) := by
  rw [Rat.div_def]
  exact sz_mul ha (sz_inv hb h)
end Yk

set_option maxHeartbeats 1000000
namespace Yk
open PySem PySem.Spec PyProof.Rows L2
def top (i : Nat) : Stmt := PySem.Challenge.pw_bandheld_k71_whole_amounts_obey.main.body.getD i (.Pass ⟨0, 0, 0, 0⟩)
structure Bt (mg : Str → Option Value) : Prop where
  int : mg "int" = none
  len : mg "len" = none
  list : mg "list" = none
  tuple : mg "tuple" = none
  str : mg "str" = none
  bool : mg "bool" = none
  max : mg "max" = none
  min : mg "min" = none
  all : mg "all" = none
  any : mg "any" = none
  sum : mg "sum" = none
  isinstance : mg "isinstance" = none
  zip : mg "zip" = none
  range : mg "range" = none
  divmod : mg "divmod" = none
structure Bg (mg : Str → Option Value) : Prop extends Bt mg where
  gcd : mg "gcd" = some (.builtin "math.gcd")
/-- an amount: its two numbers in a tuple -/
def Am (K : PySem.W.Frag) (H : Hp) (v : V) (q : Rat) : Prop := ∃ a, v = .ref a ∧ SqT K H a [.int q.num, .int (q.den : Int)]
theorem Am.x {S : List Addr} {K : PySem.W.Frag} {H H1 : Hp} {v : V} {q : Rat} (e : Ext S H H1) (h : Am K H v q) (hs : ∀ b ∈ S, ∃ l, H b = some (.lst l)) : Am K H1 v q := by
  obtain ⟨a, rfl, h⟩ := h
  exact ⟨a, rfl, tupX e h hs⟩
theorem Am.x0 {K : PySem.W.Frag} {H H1 : Hp} {v : V} {q : Rat} (e : Ext [] H H1) (h : Am K H v q) : Am K H1 v q := h.x e fun _ z => nomatch z
/-- what an amount's promise hands back -/
def RetAm (K : PySem.W.Frag) (H : Hp) (Q : VK) (q : Rat) : Prop := ∀ v H', Ext [] H H' → Am K H' v q → Q v H'
def spAdded (K : PySem.W.Frag) : Sp := fun vs H Q _ => ∃ v1 v2 p q, vs = [v1, v2] ∧ Am K H v1 p ∧ Am K H v2 q ∧ Sz 4000 p ∧ Sz 4000 q ∧ RetAm K H Q (p + q)
end Yk
namespace Yk
open PySem PySem.Spec PyProof.Rows L2
theorem cdiv {n : Nat} {i : Int} {b : Nat} (h0 : 0 < b) (hb : b < 2 ^ n) (hn : 0 < n) (h9 : n ≤ 9000) : CDivW i (b : Int) := wide_div (by omega) (by simpa using hb) hn h9
theorem cmul {m n : Nat} {i j : Int} (hi : i.natAbs < 2 ^ m) (hj : j.natAbs < 2 ^ n) (h0 : 0 < m) (h1 : 0 < n) (h : m + n ≤ 1000000) : CMulW i j := wide_mul hi hj h0 h1 h
theorem dlt {n : Nat} {a b : Int} (h : a.natAbs < 2 ^ n) : (a / b).natAbs < 2 ^ n := Nat.lt_of_le_of_lt (Int.natAbs_ediv_le_natAbs a b) h
end Yk
namespace Yk
open PySem PySem.Spec PyProof.Rows L2
/-- a row of amounts -/
def Ams (K : PySem.W.Frag) (H : Hp) (vs : List V) (qs : List Rat) : Prop := vs.length = qs.length ∧ ∀ (i : Nat) (v : V) (q : Rat), vs[i]? = some v → qs[i]? = some q → Am K H v q
theorem Ams.x {S : List Addr} {K : PySem.W.Frag} {H H1 : Hp} {vs : List V} {qs : List Rat} (e : Ext S H H1) (h : Ams K H vs qs) (hs : ∀ b ∈ S, ∃ l, H b = some (.lst l)) : Ams K H1 vs qs := ⟨h.1, fun i v q a b => (h.2 i v q a b).x e hs⟩
theorem Ams.x0 {K : PySem.W.Frag} {H H1 : Hp} {vs : List V} {qs : List Rat} (e : Ext [] H H1) (h : Ams K H vs qs) : Ams K H1 vs qs := h.x e fun _ z => nomatch z
theorem Ams.at_ {K : PySem.W.Frag} {H : Hp} {vs : List V} {qs : List Rat} (h : Ams K H vs qs) {i : Nat} {v : V} (hv : vs[i]? = some v) : ∃ q, qs[i]? = some q ∧ Am K H v q := by
  have hi : i < qs.length := by rw [← h.1]; exact (List.getElem?_eq_some_iff.mp hv).1
  exact ⟨qs[i], List.getElem?_eq_getElem hi, h.2 i v _ hv (List.getElem?_eq_getElem hi)⟩
theorem Ams.nil {K : PySem.W.Frag} {H : Hp} : Ams K H [] [] := ⟨rfl, fun i v q h => by simp at h⟩
theorem Ams.cons {K : PySem.W.Frag} {H : Hp} {v : V} {q : Rat} {vs : List V} {qs : List Rat} (h : Am K H v q) (r : Ams K H vs qs) : Ams K H (v :: vs) (q :: qs) := by
  refine ⟨by simp [r.1], fun i w u a b => ?_⟩
  cases i with
  | zero =>
    simp at a b
    subst a b
    exact h
  | succ i =>
    simp at a b
    exact r.2 i w u a b
/-- the smallest, the largest of a row -/
def minQ (p : Rat) (qs : List Rat) : Rat := qs.foldl (fun m q => if q < m then q else m) p
def maxQ (p : Rat) (qs : List Rat) : Rat := qs.foldl (fun m q => if m < q then q else m) p
theorem fold_take {α : Type} {f : α → Rat → α} {z : α} {qs : List Rat} {i : Nat} {q : Rat} (h : qs[i]? = some q) : (qs.take (i + 1)).foldl f z = f ((qs.take i).foldl f z) q := by
  obtain ⟨hl, e⟩ := List.getElem?_eq_some_iff.mp h
  rw [← List.take_append_getElem hl, List.foldl_append, e]
  rfl
theorem minQ_mem {m : Nat} {p : Rat} : ∀ {qs : List Rat}, Sz m p → (∀ q ∈ qs, Sz m q) → Sz m (minQ p qs)
  | [], h, _ => h
  | q :: r, h, hq => by
    show Sz m (minQ (if q < p then q else p) r)
    refine minQ_mem ?_ fun x hx => hq x (List.mem_cons_of_mem _ hx)
    split
    · exact hq q List.mem_cons_self
    · exact h
theorem maxQ_mem {m : Nat} {p : Rat} : ∀ {qs : List Rat}, Sz m p → (∀ q ∈ qs, Sz m q) → Sz m (maxQ p qs)
  | [], h, _ => h
  | q :: r, h, hq => by
    show Sz m (maxQ (if p < q then q else p) r)
    refine maxQ_mem ?_ fun x hx => hq x (List.mem_cons_of_mem _ hx)
    split
    · exact hq q List.mem_cons_self
    · exact h
end Yk
namespace Yk
open PySem PySem.Spec PyProof.Rows L2
/-- what five numbers the bag may hold -/
def Bag5 (ns : List Int) (it : Addr) (l : List V) : Prop := ∃ (pos : Nat) (rest seed cnt : Int), l = [.ref it, .int (pos : Int), .int rest, .int seed, .int cnt] ∧ pos ≤ ns.length ∧ 0 ≤ rest ∧ 0 ≤ seed ∧ seed < 2147483629
structure Bag where
  a : Addr
  it : Addr
  ns : List Int
structure BagAt (K : PySem.W.Frag) (H : Hp) (b : Bag) : Prop where
  ex : ∃ l : List V, H b.a = some (.lst l) ∧ SqL K H b.it (b.ns.map V.int) ∧ b.ns.length ≤ 63 ∧ Bag5 b.ns b.it l
theorem BagAt.lst {K : PySem.W.Frag} {H : Hp} {b : Bag} (h : BagAt K H b) : ∃ l, H b.a = some (.lst l) := by
  obtain ⟨l, h1, _⟩ := h.ex
  exact ⟨l, h1⟩
theorem BagAt.x0 {K : PySem.W.Frag} {H H1 : Hp} {b : Bag} (h : BagAt K H b) (e : Ext [] H H1) : BagAt K H1 b := by
  obtain ⟨l, h1, h2, h3, h4⟩ := h.ex
  exact ⟨l, e _ _ h1 (fun z => nomatch z), lst0 e h2, h3, h4⟩
theorem BagAt.new {K : PySem.W.Frag} {H : Hp} {b : Bag} {p : Addr} {o : HO} (h : BagAt K H b) (hp : H p = none) : BagAt K (upd H p o) b := h.x0 (Ext.refl.new hp)
theorem BagAt.ne {K : PySem.W.Frag} {H : Hp} {b : Bag} {p : Addr} (h : BagAt K H b) (hp : H p = none) : b.a ≠ p := by
  obtain ⟨l, q⟩ := h.lst
  exact ne_of_none q hp
theorem BagAt.ne' {K : PySem.W.Frag} {H : Hp} {b : Bag} {p : Addr} (hp : H p = none) (h : BagAt K H b) : b.a ≠ p := h.ne hp
/-- what was new to a heap with the bag may change later -/
theorem BagAt.own {K : PySem.W.Frag} {H0 H : Hp} {b : Bag} {p : Addr} {o : HO} (h0 : BagAt K H0 b) (hp : H0 p = none) (h : BagAt K H b) : BagAt K (upd H p o) b := by
  obtain ⟨l0, a0, a1, _, _⟩ := h0.ex
  obtain ⟨l, h1, h2, h3, h4⟩ := h.ex
  refine ⟨l, by rw [upd_ne (ne_of_none a0 hp)]; exact h1, ?_, h3, h4⟩
  rcases a1 with a1 | a1
  · have hne : b.it ≠ p := by
      rcases a1 with a1 | ⟨u, a1⟩
      · exact ne_of_none a1 hp
      · exact ne_of_none a1 hp
    rcases h2 with (h2 | ⟨u, h2⟩) | h2
    · exact .inl (.inl (by rw [upd_ne hne]; exact h2))
    · exact .inl (.inr ⟨u, by rw [upd_ne hne]; exact h2⟩)
    · exact .inr h2
  · exact .inr a1
theorem tupB {K : PySem.W.Frag} {H H1 : Hp} {a : Addr} {b : Bag} {xs : List V} (hb : BagAt K H b) (e : Ext [b.a] H H1) (h : SqT K H a xs) : SqT K H1 a xs := tupX e h fun c hc => by rw [List.mem_singleton.mp hc]; exact hb.lst
theorem Am.b {K : PySem.W.Frag} {H H1 : Hp} {b : Bag} {v : V} {q : Rat} (hb : BagAt K H b) (e : Ext [b.a] H H1) (h : Am K H v q) : Am K H1 v q := h.x e fun c hc => by rw [List.mem_singleton.mp hc]; exact hb.lst
theorem Am.b' {K : PySem.W.Frag} {H H1 : Hp} {b : Bag} {v : V} {q : Rat} (e : Ext [b.a] H H1) (hb : BagAt K H b) (h : Am K H v q) : Am K H1 v q := h.b hb e
theorem Ams.b {K : PySem.W.Frag} {H H1 : Hp} {b : Bag} {v : List V} {q : List Rat} (hb : BagAt K H b) (e : Ext [b.a] H H1) (h : Ams K H v q) : Ams K H1 v q := h.x e fun c hc => by rw [List.mem_singleton.mp hc]; exact hb.lst
theorem Am.n {K : PySem.W.Frag} {H : Hp} {p : Addr} {o : HO} {v : V} {q : Rat} (h : Am K H v q) (hp : H p = none) : Am K (upd H p o) v q := h.x0 (Ext.refl.new hp)
theorem am_lit {K : PySem.W.Frag} {H : Hp} {a : Addr} {n : Int} {d : Nat} (hd : d ≠ 0) (hc : n.natAbs.Coprime d) (h : SqT K H a [.int n, .int (d : Int)]) : Am K H (.ref a) ⟨n, d, hd, hc⟩ := ⟨a, rfl, h⟩
end Yk

open PySem PySem.Spec PyProof.Rows L2 Yk
local macro_rules | `(tactic| walk_at "sq") => `(tactic| first
  | assumption
  | exact tupS
  | exact lstS
  | ((refine' tupN ?h1 (by assumption)); (case h1 => walk_at "sq"))
  | ((refine' lstN ?h1 (by assumption)); (case h1 => walk_at "sq"))
  | ((refine' tup0 (by assumption) ?h1); (case h1 => walk_at "sq"))
  | ((refine' lst0 (by assumption) ?h1); (case h1 => walk_at "sq")))
local macro_rules | `(tactic| walk_at "side") => `(tactic| first | assumption | decide | omega | exact Or.inr ⟨by decide, by decide⟩ | exact ⟨by decide, by decide, by decide⟩ | exact ⟨by decide, by decide +kernel⟩)
local macro_rules | `(tactic| walk_at "ty") => `(tactic| first
  | exact TyX.base TyOf.non
  | exact TyX.base (TyOf.bl _)
  | exact TyX.base (TyOf.int _)
  | exact TyX.base (TyOf.str _)
  | ((refine' tyT ?h1); (case h1 => walk_at "sq"))
  | ((refine' tyL ?h1); (case h1 => walk_at "sq")))
local macro_rules | `(tactic| walk_at "st") => `(tactic| first
  | with_reducible refine' r_seq ?_
  | with_reducible refine' r_asg ?_
  | with_reducible refine' r_ret ?_
  | with_reducible refine' r_drop ?_
  | with_reducible refine' r_ifS ?_
  | with_reducible refine' r_par ?_
  | with_reducible refine' r_name ?_
  | with_reducible refine' r_gCons ?_
  | with_reducible refine' r_gNil ?_
  | with_reducible refine' r_gSub ?_
  | ((with_reducible refine' r_gTup ?h1 ?h2 ?h3); (case h1 => walk_at "sq"); (case h2 => rfl))
  | with_reducible refine' r_op ?_
  | with_reducible refine' r_un ?_
  | with_reducible refine' r_c ?_
  | ((with_reducible refine' r_var ?h1 ?h2); (case h1 => rfl))
  | with_reducible refine' r_I0 ?_
  | with_reducible refine' r_U ?_
  | ((with_reducible refine' r_I ?h1 ?h2); (case h1 => walk_at "side"))
  | ((with_reducible refine' r_ixT ?h1 ?h2 ?h3); (case h1 => walk_at "sq"); (case h2 => rfl))
  | ((with_reducible refine' r_ixL ?h1 ?h2 ?h3); (case h1 => walk_at "sq"); (case h2 => rfl))
  | with_reducible refine' r_cons ?_
  | with_reducible refine' r_nil ?_
  | with_reducible refine' r_tup ?_
  | with_reducible refine' r_lst ?_
  | with_reducible refine' r_CB ?_
  | with_reducible refine' r_R ?_
  | with_reducible refine' r_R1 ?_
  | with_reducible refine' r_star ?_
  | with_reducible refine' r_RS ?_
  | with_reducible refine' r_RX ?_
  | with_reducible refine' r_gcd ?_
  | ((with_reducible refine' r_aug ?h1 ?h2); (case h1 => rfl))
  | with_reducible refine' r_ipI ?_
  | ((with_reducible refine' r_app ?h1 ?h2 ?h3); (case h1 => assumption); (case h2 => first | assumption | omega))
  | with_reducible refine' r_test ?_
  | with_reducible refine' r_B ?_
  | with_reducible refine' r_bl ?_
  | with_reducible refine' r_if ?_
  | with_reducible refine' r_and ?_
  | with_reducible refine' r_or ?_
  | with_reducible refine' r_not ?_
  | with_reducible refine' r_next ?_
  | with_reducible refine' r_int ?_
  | with_reducible refine' r_exI ?_
  | with_reducible refine' r_andV ?_
  | with_reducible refine' r_orV ?_
  | with_reducible refine' r_notV ?_
  | ((with_reducible refine' r_isi ?h1 ?h2 ?h3); (case h1 => walk_at "ty"); (case h2 => rfl))
  | ((with_reducible refine' r_isiT ?h1 ?h2 ?h3 ?h4); (case h1 => exact upd_same); (case h2 => walk_at "ty"); (case h3 => rfl))
  | with_reducible refine' And.intro (rfl : V.non = V.non) ?_
  | with_reducible refine' r_BM ?_
  | with_reducible refine' r_BM0 ?_
  | with_reducible refine' r_lc ?_
  | with_reducible refine' r_yes ?_
  | with_reducible refine' r_tt ?_
  | with_reducible refine' r_iRng1 ?_
  | with_reducible refine' r_iList ?_
  | with_reducible refine' r_iTup ?_
  | with_reducible refine' r_iZip ?_
  | ((with_reducible refine' r_gUnl ?h1 ?h2 ?h3); (case h1 => walk_at "sq"); (case h2 => rfl))
  | with_reducible refine' r_slL ?_
  | with_reducible refine' r_noP ?_
  | with_reducible refine' r_part ?_
  | ((with_reducible refine' r_len ?h1 ?h2); (case h1 => (first | (refine Or.inl ?_; walk_at "sq") | (refine Or.inr ?_; walk_at "sq"))))
  | ((with_reducible refine' r_eq ?h1 ?h2); (case h1 => rfl))
  | ((with_reducible refine' r_ne ?h1 ?h2); (case h1 => rfl))
  | ((with_reducible refine' And.intro ?h1 ?h2); (case h1 => (simp only [List.length_cons, List.length_nil, List.length_map]; decide)); (intro np hnp))
  | ((with_reducible refine' Exists.intro _ (Exists.intro _ (And.intro ?h1 ?h2))); (case h1 => (show ([_, _] : List V) = [_, _]; rfl)))
  | ((with_reducible refine' Exists.intro _ (And.intro ?h1 ?h2)); (case h1 => (first | (show ([_] : List V) = arr _ _ _ _ _; rfl) | (show ([_, _] : List V) = arr _ _ _ _ _; rfl) | (show ([_, _, _] : List V) = arr _ _ _ _ _; rfl)))))
local macro_rules | `(tactic| walk_at "go") => `(tactic| repeat walk_at "st")
local macro_rules | `(tactic| walk_at "bag") => `(tactic| first
  | assumption
  | (refine BagAt.new ?_ (by assumption); walk_at "bag")
  | (refine BagAt.x0 ?_ (by assumption); walk_at "bag"))
local macro_rules | `(tactic| walk_at "ext") => `(tactic| first
  | assumption
  | exact Ext.refl
  | (refine Ext.new ?_ (by assumption); walk_at "ext")
  | (refine Ext.trans ?_ (by assumption); walk_at "ext"))
local macro_rules | `(tactic| walk_at "ams") => `(tactic| first
  | exact Ams.nil
  | (refine Ams.cons ?_ ?_; (first | assumption | (refine am_lit _ _ ?_; walk_at "sq")); walk_at "ams"))
local macro_rules | `(tactic| walk_at "br") => `(tactic| first
  | ((with_reducible refine' r_true ?h1 ?h2); (case h1 => rfl))
  | ((with_reducible refine' r_false ?h1 ?h2); (case h1 => rfl)))
local macro_rules | `(tactic| walk_at "run") => `(tactic| repeat (first | walk_at "st" | walk_at "br"))
local macro_rules | `(tactic| walk_at "am") => `(tactic| first
  | assumption
  | (refine Am.x0 (by assumption) ?_; walk_at "am")
  | (refine Am.n ?_ (by assumption); walk_at "am")
  | (refine Am.b' (by assumption) (by assumption) ?_; walk_at "am"))
set_option maxHeartbeats 1000000
/-! A head whose part of the heap is told by a written list of addresses; its run's looks in pieces. -/
namespace Hk
open PySem PySem.Spec PyProof.Rows L2 He
/-- a def that stands at a path of the part -/
structure DefP where
  path : PySem.W.Frag → Addr
  name : Str
  qual : Str
  params : Arguments
  body : List Stmt
  scope : Scope
  dfl : List Dv := []
  kwd : List (Str × Dv) := []
def DefP.val (d : DefP) : FnW := some (d.name, d.qual, d.params, .stmts d.body, d.scope, mainGlobals, [], builtinsNs)
def DefP.dvs (K : PySem.W.Frag) (d : DefP) : List V := d.dfl.map (Dv.v K)
def DefP.kws (K : PySem.W.Frag) (d : DefP) : List (Str × V) := d.kwd.map fun q => (q.1, q.2.v K)
def seen (K : PySem.W.Frag) (a : Addr) : FnW := match K.lookup a with
  | some o => (match o.data with
    | .func u => some (u.name, u.qualname, u.params, u.body, u.scope, u.globals, u.closure, u.builtins)
    | _ => none)
  | none => none
def good (K : PySem.W.Frag) (d : DefP) (a : Addr) : Bool := PySem.W.keepIn K (.ref a) && match K.lookup a with
  | some o => (match o.data with
    | .func u => PySem.W.codeIn K u.code d.qual && (dflB K u.defaults (d.dvs K) && kwdB K u.kwdefaults (d.kws K))
    | _ => false)
  | none => false
theorem funD_of {K : PySem.W.Frag} {d : DefP} (e : seen K (d.path K) = d.val) (c : good K d (d.path K) = true) : ∃ fd, FunD K d.name d.qual d.params d.body d.scope (d.dvs K) (d.kws K) (d.path K) fd := by
  obtain ⟨kp, c2⟩ := Bool.and_eq_true_iff.mp c
  unfold seen at e
  generalize ha : d.path K = a at *
  cases q : K.lookup a with
  | none => simp only [q] at c2; cases c2
  | some o =>
    simp only [q] at c2 e
    obtain ⟨oc, od, dt, osl⟩ := o
    cases dt with
    | func fd =>
      dsimp only at c2 e
      obtain ⟨k1, k2⟩ := Bool.and_eq_true_iff.mp c2
      obtain ⟨k3, k4⟩ := Bool.and_eq_true_iff.mp k2
      obtain ⟨m1, m2, m3, m4, m5, m6, m7, m8, m9, m10, m11, m12, m13, m14, m15⟩ := fd
      unfold DefP.val at e
      dsimp only at e k1 k3 k4
      injection e with e
      injection e with e1 e; injection e with e2 e; injection e with e3 e; injection e with e4 e; injection e with e5 e; injection e with e6 e; injection e with e7 e8
      subst e1 e2 e3 e4 e5 e6 e7 e8
      exact ⟨_, ⟨oc, od, m8, m9, m10, m11, m12, m13, m14, osl, rfl, q, k1, dflB_ok k3, kwdB_ok k4⟩, kp⟩
    | _ => dsimp only at c2; cases c2
abbrev Al : Type := Bool × List FnW
def look (as : List Addr) (fa : List Fa) (fn : List DefP) (ex : PySem.W.Frag → Bool) (K : PySem.W.Frag) : Al := ((fa.all fun f => f.ok K) && ((fn.all fun d => good K d (d.path K)) && ex K), fn.map fun d => seen K (d.path K))
def due (fn : List DefP) : Al := (true, fn.map DefP.val)
structure Says (fa : List Fa) (fn : List DefP) (ex : PySem.W.Frag → Bool) (K : PySem.W.Frag) : Prop where
  fact : ∀ (i : Nat) (f : Fa), fa[i]? = some f → f.ok K = true
  def_ : ∀ (i : Nat) (d : DefP), fn[i]? = some d → ∃ fd, FunD K d.name d.qual d.params d.body d.scope (d.dvs K) (d.kws K) (d.path K) fd
  more : ex K = true
theorem says_of {as : List Addr} {fa : List Fa} {fn : List DefP} {ex : PySem.W.Frag → Bool} {K : PySem.W.Frag} (e : look as fa fn ex K = due fn) : Says fa fn ex K := by
  have e1 : ((fa.all fun f => f.ok K) && ((fn.all fun d => good K d (d.path K)) && ex K)) = true := congrArg (·.1) e
  have e2 : (fn.map fun d => seen K (d.path K)) = fn.map DefP.val := congrArg (·.2) e
  obtain ⟨h1, h⟩ := Bool.and_eq_true_iff.mp e1
  obtain ⟨h2, h3⟩ := Bool.and_eq_true_iff.mp h
  refine ⟨fun i f hf => List.all_eq_true.mp h1 f (List.mem_of_getElem? hf), fun i d hd => funD_of ?_ (List.all_eq_true.mp h2 d (List.mem_of_getElem? hd)), h3⟩
  have e3 := congrArg (fun l : List FnW => l[i]?) e2
  rw [List.getElem?_map, List.getElem?_map, hd] at e3
  exact Option.some.inj e3
/-- by the written addresses -/
def obG (as : List Addr) (fa : List Fa) (fn : List DefP) (ex : PySem.W.Frag → Bool) (g : Addr → Option Obj) : Al := look as fa fn ex (frG g as)
def hook (as : List Addr) (fa : List Fa) (fn : List DefP) (ex : PySem.W.Frag → Bool) : PySem.W.Hook where
  α := Al
  obs := fun s => obG as fa fn ex s.heap.get?
  val := fun _ => due fn
  says := fun _ h => ∃ K : PySem.W.Frag, K.In h ∧ Says fa fn ex K
  of := fun _ _ e => ⟨_, frG_in, says_of e⟩
  keeps := fun _ _ _ ⟨K, hK, c⟩ k => ⟨K, PySem.W.Frag.In.keeps hK k, c⟩
theorem obG_eq {as : List Addr} {fa : List Fa} {fn : List DefP} {ex : PySem.W.Frag → Bool} {g : Addr → Option Obj} {s : Shared} (h : ∀ a, g a = s.heap.get? a) : obG as fa fn ex g = (hook as fa fn ex).obs s := by
  have e : g = s.heap.get? := funext h
  rw [e]
  rfl
end Hk
namespace Hk
open PySem PySem.W PySem.Spec PyProof.Rows L2 He HandSHeadRun
/-- the def behind a property -/
def getter (K : PySem.W.Frag) (p : Addr) : Addr := match PySem.W.recIn K p "property" with
  | some (.ref g :: _) => g
  | _ => 0
noncomputable abbrev whole (r : OpenRow) (M : Nat) (w : World) := wholeF (fun p => stepQ (denQ tabQ) p w) fenceQ M r.prog
/-- one look at the run's end -/
def At {α : Type} (r : OpenRow) (M : Nat) (w : World) (f : Shared × SharedT → α) (v : α) : Prop := (whole r M w).map f = some v
theorem At.and {r : OpenRow} {M : Nat} {w : World} {f g : Shared × SharedT → Bool} (a : At r M w f true) (b : At r M w g true) : At r M w (fun x => f x && g x) true := by
  obtain ⟨x, hx, ex⟩ := Option.map_eq_some_iff.mp a
  obtain ⟨y, hy, ey⟩ := Option.map_eq_some_iff.mp b
  rw [hx] at hy
  cases hy
  exact Option.map_eq_some_iff.mpr ⟨x, hx, by rw [ex, ey]; rfl⟩
theorem join {r : OpenRow} {q : Program} {M : Nat} {loose : List Str} {w : World} {as : List Addr} {fa : List Fa} {fn : List DefP} {ex : Frag → Bool}
    (a : At r M w (fun x => obG as fa fn ex (getT x.2)) (due fn)) (b : At r M w (fun x => staticsOk (importedModules r.prog.main.body) x.1.heap x.2.abs.heap && laidKept x.1.heap x.2.abs.heap) true)
    (b2 : At r M w (fun x => namesBound r.prog x.2.abs.heap && gensDone x.2.abs) true)
    (c : At r M w (fun x => seenQ q loose (importedModules r.prog.main.body) (fun s => xlAt q [] s && recOk r.toRowW.records s) x.2.abs) (openGood q loose)) : RunEqI r q (hook as fa fn ex) (fun s => obG as fa fn ex (getT s)) M loose w := by
  obtain ⟨x, hx, e1⟩ := Option.map_eq_some_iff.mp a
  obtain ⟨x2, hx2, e2⟩ := Option.map_eq_some_iff.mp b
  obtain ⟨x3, hx3, e3⟩ := Option.map_eq_some_iff.mp b2
  obtain ⟨x4, hx4, e4⟩ := Option.map_eq_some_iff.mp c
  rw [hx] at hx2 hx3 hx4
  cases hx2
  cases hx3
  cases hx4
  obtain ⟨p1, p2⟩ := Bool.and_eq_true_iff.mp e2
  obtain ⟨p3, p4⟩ := Bool.and_eq_true_iff.mp e3
  refine Option.map_eq_some_iff.mpr ⟨x, hx, ?_⟩
  have l : looksF r.prog x.1.heap x.2.abs = true := by
    unfold looksF
    rw [p1, p2, p3, p4]
    rfl
  rw [l, e4]
  exact congrArg (fun z => (true, openGood q loose, z)) e1
end Hk
namespace Hk
open PySem PySem.W PySem.Spec PyProof.Rows L2 He
/-- the class x has the name f as a property -/
def propB (K : Frag) (x f : Str) : Bool := eqO (findIn K (.ref (ga K x)) f) (some (some (.ref (ma K (ga K x) f)))) && (eqO (specialIn K (.ref (ma K (ga K x) f)) "__get__") (some (some (.builtin "property.__get__"))) &&
  (decide (takesIn K (.ref (ma K (ga K x) f)) = some true) && (match recIn K (ma K (ga K x) f) "property" with
    | some (.ref _ :: _) => true
    | _ => false)))
theorem propB_ok {K : Frag} {x f : Str} (h : propB K x f = true) : PropOf K (ga K x) f (ma K (ga K x) f) (getter K (ma K (ga K x) f)) := by
  obtain ⟨h1, h⟩ := Bool.and_eq_true_iff.mp h
  obtain ⟨h2, h⟩ := Bool.and_eq_true_iff.mp h
  obtain ⟨h3, h4⟩ := Bool.and_eq_true_iff.mp h
  refine ⟨eqO_ok h1, eqO_ok h2, of_decide_eq_true h3, ?_⟩
  unfold getter
  cases e : recIn K (ma K (ga K x) f) "property" with
  | none => rw [e] at h4; cases h4
  | some l =>
    rw [e] at h4
    cases l with
    | nil => cases h4
    | cons v r =>
      cases v with
      | ref g => exact ⟨r, rfl⟩
      | _ => cases h4
end Hk

set_option maxHeartbeats 0
namespace YkHead
open PySem PySem.Spec PyProof.Rows L2 Yk
def dD (x : Str) (i : Nat) : Hk.DefP := ⟨fun K => He.ga K x, x, x, defArgs (top i), defBody (top i), defScope (top i), [], []⟩
def fn0 : List Hk.DefP := [dD "is_number" 2, dD "number_text" 3, dD "read_number" 4, dD "is_amount" 12, dD "plus" 13, dD "minus" 14, dD "_added" 15, dD "times" 16, dD "over" 17, dD "_product" 18, dD "compare" 19, dD "smallest" 20, dD "largest" 21, dD "amount_text" 22, dD "read_amount" 23, dD "_law_bag" 25, dD "_law_draw" 26, dD "_law_of" 27, dD "_law_like" 28, dD "_law_pair" 29]
def fn1 : List Hk.DefP := [dD "_law_more" 30, dD "_law_add" 31, dD "_law_mul" 32, dD "_law_div" 33, dD "_law_min" 34, dD "_law_max" 35, dD "_law_sum" 36, dD "_law_show" 37, dD "_law_great" 38, dD "_law_amount" 39, dD "_law_bit" 40, dD "_law_mixed" 41, dD "_law_sums" 42, dD "_law_ends" 43, dD "_law_grouped" 44, dD "_law_order" 45, dD "_law_three_so" 46, dD "law" 47]
def fn : List Hk.DefP := fn0 ++ fn1
def fa0 : List He.Fa := [.glo "is_number", .glo "number_text", .glo "read_number", .glo "is_amount", .glo "plus", .glo "minus", .glo "_added", .glo "times", .glo "over", .glo "_product", .glo "compare", .glo "smallest", .glo "largest", .glo "amount_text", .glo "read_amount", .glo "_law_bag", .glo "_law_draw", .glo "_law_of", .glo "_law_like", .glo "_law_pair"]
def fa1 : List He.Fa := [.glo "_law_more", .glo "_law_add", .glo "_law_mul", .glo "_law_div", .glo "_law_min", .glo "_law_max", .glo "_law_sum", .glo "_law_show", .glo "_law_great", .glo "_law_amount", .glo "_law_bit", .glo "_law_mixed", .glo "_law_sums", .glo "_law_ends", .glo "_law_grouped", .glo "_law_order", .glo "_law_three_so", .glo "law", .free "ValueError", .free "all"]
def fa2 : List He.Fa := [.free "any", .free "bool", .free "divmod", .free "int", .free "isinstance", .free "len", .free "list", .free "max", .free "min", .free "range", .free "str", .free "sum", .free "tuple", .free "zip", .int "TEXT_DIGITS" 400]
def fa : List He.Fa := fa0 ++ fa1 ++ fa2
def ex (K : PySem.W.Frag) : Bool := He.eqO (PySem.W.nsIn K mainGlobals "gcd") (some (some (.builtin "math.gcd"))) && He.eqO (PySem.W.nsIn K mainGlobals "ZERO") (some (some (.ref (He.ga K "ZERO")))) && He.tupB K "ZERO" [.int 0, .int 1]
abbrev R : PySem.W.OpenRow := PySem.W.OpenLaw.row PySem.Challenge.rw_bandheld_k71_whole_amounts_obey
def as_0 : List Addr := [3, 6, 4, 49, 56, 63, 73, 93, 112, 115, 122, 129, 136, 143, 150, 157, 164, 171, 178, 185, 192, 199, 206, 213, 220, 225, 232, 239, 246, 253, 260, 267, 274, 281, 288, 295, 302, 309, 314, 321]
def as_1 : List Addr := [328, 335, 342, 349, 354, 0, 48, 55, 62, 72, 92, 111, 121, 128, 135, 142, 149, 156, 163, 170, 177, 184, 191, 198, 205, 212, 219, 224, 231, 238, 245, 252, 259, 266, 273, 280, 287, 294, 301, 308]
def as_2 : List Addr := [313, 320, 327, 334, 341, 348, 353, 43, 44, 45, 46, 47, 50, 51, 52, 53, 54, 57, 58, 59, 60, 61, 71, 74, 90, 91, 109, 110, 116, 117, 118, 119, 120, 123, 124, 125, 126, 127, 130, 131]
def as_3 : List Addr := [132, 133, 134, 137, 138, 139, 140, 141, 144, 145, 146, 147, 148, 151, 152, 153, 154, 155, 158, 159, 160, 161, 162, 165, 166, 167, 168, 169, 172, 173, 174, 175, 176, 179, 180, 181, 182, 183, 186, 187]
def as_4 : List Addr := [188, 189, 190, 193, 194, 195, 196, 197, 200, 201, 202, 203, 204, 207, 208, 209, 210, 211, 214, 215, 216, 217, 218, 221, 222, 223, 226, 227, 228, 229, 230, 233, 234, 235, 236, 237, 240, 241, 242, 243]
def as_5 : List Addr := [244, 247, 248, 249, 250, 251, 254, 255, 256, 257, 258, 261, 262, 263, 264, 265, 268, 269, 270, 271, 272, 275, 276, 277, 278, 279, 282, 283, 284, 285, 286, 289, 290, 291, 292, 293, 296, 297, 298, 299]
def as_6 : List Addr := [300, 303, 304, 305, 306, 307, 310, 311, 312, 315, 316, 317, 318, 319, 322, 323, 324, 325, 326, 329, 330, 331, 332, 333, 336, 337, 338, 339, 340, 343, 344, 345, 346, 347, 350, 351, 352, 89, 108, 84]
def as_7 : List Addr := [85, 86, 87, 88, 103, 104, 105, 106, 107]
def as_ : List Addr := as_0 ++ as_1 ++ as_2 ++ as_3 ++ as_4 ++ as_5 ++ as_6 ++ as_7
noncomputable abbrev hk : PySem.W.Hook := Hk.hook as_ fa fn ex
def ob (s : PySem.W.SharedT) : Hk.Al := Hk.obG as_ fa fn ex (HandSHeadRun.getT s)
theorem ob_eq (s : PySem.W.SharedT) : ob s = hk.obs s.abs := Hk.obG_eq (HandSHeadRun.getT_eq s)
def loose0 : List Str := ["is_number", "number_text", "read_number", "is_amount", "plus", "minus", "_added", "times", "over", "_product", "compare", "smallest", "largest", "amount_text", "read_amount", "_law_bag", "_law_draw", "_law_of", "_law_like", "_law_pair"]
def loose1 : List Str := ["_law_more", "_law_add", "_law_mul", "_law_div", "_law_min", "_law_max", "_law_sum", "_law_show", "_law_great", "_law_amount", "_law_bit", "_law_mixed", "_law_sums", "_law_ends", "_law_grouped", "_law_order", "_law_three_so", "BandError", "BadAmount", "Short"]
def loose2 : List Str := ["ZERO", "TEXT_DIGITS"]
def loose : List Str := loose0 ++ loose1 ++ loose2
abbrev vw : Program := PySem.W.view R.prog [0, 47]
theorem run (w : World) : HandSHeadRun.RunEqI R vw hk ob 8000 loose w := by
  unfold HandSHeadRun.RunEqI
  kernel_rfl
end YkHead

set_option maxHeartbeats 1000000
/-! Texts of numbers. -/
namespace Yk
open PySem PySem.Spec PyProof.Rows L2 TL
/-- the text of a number -/
def nt (n : Nat) : Str := Str.ofString (toString ((n : Nat) : Int))
theorem tl_nt (n : Nat) : tl (nt n) = numL n := tl_num n
theorem cps_nt (n : Nat) : (nt n).cps.toList = numL n := tl_nt n
theorem str_eq {a b : Str} (h : tl a = tl b) : a = b := Str.ext' (Array.toList_inj.mp h)
theorem len_nt (n : Nat) : (nt n).length = (numL n).length := by rw [← tl_nt]; exact (Array.length_toList).symm
theorem numL_le {n k : Nat} (hk : 0 < k) (h : n < 10 ^ k) : (numL n).length ≤ k := by
  unfold numL
  rw [List.length_map]
  exact (Nat.length_toDigits_le_iff (by decide) hk).mpr h
theorem numL_ne (n : Nat) : numL n ≠ [] := by
  unfold numL
  intro e
  have h := List.map_eq_nil_iff.mp e
  have h2 : 0 < (Nat.toDigits 10 n).length := by
    by_cases hn : n < 10
    · rw [Nat.toDigits_of_lt_base hn]; simp
    · rw [Nat.toDigits_of_base_le (by decide) (by omega)]; simp
  rw [h] at h2
  exact absurd h2 (by decide)
theorem numL_snoc {n d : Nat} (hn : 0 < n) (hd : d < 10) : numL (n * 10 + d) = numL n ++ numL d := by
  unfold numL
  rw [← List.map_append, Nat.toDigits_append_toDigits (by decide) hn hd, Nat.mul_comm]
theorem numL_digit {d : Nat} (hd : d < 10) : numL d = [48 + d] := numL_lt hd
/-- filled up with noughts -/
def padL (k n : Nat) : List Nat := List.replicate (k - (numL n).length) 48 ++ numL n
theorem numL_split : ∀ (k : Nat) (q r : Nat), 0 < q → r < 10 ^ (k + 1) → numL (q * 10 ^ (k + 1) + r) = numL q ++ padL (k + 1) r
  | 0, q, r, hq, hr => by
    have hr' : r < 10 := by simpa using hr
    unfold padL
    rw [numL_digit hr', show 10 ^ (0 + 1) = 10 from rfl, numL_snoc hq hr', numL_digit hr']
    rfl
  | k + 1, q, r, hq, hr => by
    have h1 : r / 10 < 10 ^ (k + 1) := Nat.div_lt_of_lt_mul (by rw [Nat.pow_succ] at hr; omega)
    have hd : r % 10 < 10 := Nat.mod_lt _ (by decide)
    have e : q * 10 ^ (k + 1 + 1) + r = (q * 10 ^ (k + 1) + r / 10) * 10 + r % 10 := by
      rw [Nat.pow_succ 10 (k + 1), ← Nat.mul_assoc, Nat.add_mul, Nat.add_assoc, Nat.div_add_mod' r 10]
    have hp : 0 < q * 10 ^ (k + 1) + r / 10 := by
      have : 0 < q * 10 ^ (k + 1) := Nat.mul_pos hq (Nat.pow_pos (by decide))
      omega
    rw [e, numL_snoc hp hd, numL_split k q (r / 10) hq h1, List.append_assoc]
    congr 1
    unfold padL
    by_cases hz : r / 10 = 0
    · have er : r = r % 10 := by omega
      rw [hz, numL_digit (show 0 < 10 by decide), numL_digit hd]
      have e2 : numL r = [48 + r % 10] := by rw [er]; simpa using numL_digit hd
      rw [e2]
      have h3 : List.replicate (k + 1 - [48 + 0].length) 48 ++ [48 + 0] = List.replicate (k + 1) 48 := by
        show List.replicate (k + 1 - 1) 48 ++ [48] = _
        rw [show k + 1 - 1 = k by omega, ← List.replicate_succ']
      rw [h3]
      show List.replicate (k + 1) 48 ++ _ = List.replicate (k + 1 + 1 - 1) 48 ++ _
      rw [show k + 1 + 1 - 1 = k + 1 by omega]
    · have e2 : numL r = numL (r / 10) ++ numL (r % 10) := by
        rw [← numL_snoc (by omega) hd, Nat.div_add_mod' r 10]
      rw [e2, List.length_append, numL_digit hd, List.append_assoc]
      rw [show k + 1 + 1 - ((numL (r / 10)).length + [48 + r % 10].length) = k + 1 - (numL (r / 10)).length by show k + 1 + 1 - (_ + 1) = _; omega]
theorem numL_range {n c : Nat} (h : c ∈ numL n) : 48 ≤ c ∧ c ≤ 57 := by
  unfold numL at h
  obtain ⟨ch, hch, e⟩ := List.mem_map.mp h
  have r := digit_range (Nat.isDigit_of_mem_toDigits (by decide) (by decide) hch)
  rw [← e]
  exact r
theorem zfill_tl {n k : Nat} (h : (numL n).length ≤ k) : tl (Txt.zfill (nt n) (k : Int)) = padL k n := by
  unfold Txt.zfill
  rw [len_nt]
  split
  · rename_i hk
    have e : (numL n).length = k := by omega
    unfold padL
    rw [e, Nat.sub_self, tl_nt]
    rfl
  · unfold zfilled
    have hc : ∀ c, (nt n).cps[0]? = some c → c ≠ 43 ∧ c ≠ 45 := by
      intro c hc
      have h1 : c ∈ numL n := by
        rw [← tl_nt]
        rw [← Array.getElem?_toList] at hc
        exact List.mem_of_getElem? hc
      have := numL_range h1
      omega
    have hp : tl (Builtin.Str.padded (nt n) (Int.toNat (k : Int) - (numL n).length) 0 48) = padL k n := by
      unfold Builtin.Str.padded padL
      show (Array.replicate (k - (numL n).length) 48 ++ (nt n).cps ++ Array.replicate 0 48).toList = _
      rw [Array.toList_append, Array.toList_append, cps_nt]
      simp
    split
    · rename_i e
      exact absurd rfl (hc _ e).1
    · rename_i e
      exact absurd rfl (hc _ e).2
    · exact hp
theorem read_nt {n : Nat} (h : (nt n).length ≤ 4300) : PySem.intText? (nt n) = some (n : Int) := by
  have hd : PySem.NumText.AllDigits (nt n).cps.toList := by
    intro c hc
    rw [cps_nt] at hc
    exact numL_range hc
  have hne : (nt n).cps.toList ≠ [] := by
    rw [cps_nt]
    exact numL_ne n
  have e := PySem.intText_digits hd hne h
  rw [cps_nt] at e
  rw [e]
  unfold numL
  rw [PySem.W.KIN.val_back]
theorem ascii_nt (n : Nat) : Txt.isascii (nt n) = true := by
  unfold Txt.isascii
  rw [← Array.all_toList, List.all_eq_true]
  intro c hc
  rw [cps_nt] at hc
  have := numL_range hc
  exact decide_eq_true (by omega)
theorem uni_digit : ∀ d : Nat, d < 10 → Unicode.isDigit (48 + d) = true := by decide +kernel
theorem digit_nt (n : Nat) : Txt.isdigit (nt n) = true := by
  unfold Txt.isdigit
  rw [Bool.and_eq_true]
  refine ⟨decide_eq_true ?_, ?_⟩
  · rw [len_nt]
    exact List.length_pos_iff.mpr (numL_ne n)
  · rw [← Array.all_toList, List.all_eq_true]
    intro c hc
    rw [cps_nt] at hc
    have h := numL_range hc
    have := uni_digit (c - 48) (by omega)
    rw [show 48 + (c - 48) = c by omega] at this
    exact this
theorem numL_head : ∀ n : Nat, 0 < n → ∃ c r, numL n = c :: r ∧ c ≠ 48 := by
  intro n
  induction n using Nat.strongRecOn with
  | _ n ih =>
    intro hn
    by_cases h : n < 10
    · exact ⟨48 + n, [], numL_digit h, by omega⟩
    · obtain ⟨c, r, e, hc⟩ := ih (n / 10) (by omega) (by omega)
      refine ⟨c, r ++ numL (n % 10), ?_, hc⟩
      have h2 := numL_snoc (n := n / 10) (d := n % 10) (by omega) (Nat.mod_lt _ (by decide))
      rw [show n / 10 * 10 + n % 10 = n by omega, e] at h2
      exact h2
theorem nt_zero : nt 0 = Str.ofString "0" := by decide +kernel
theorem starts_nt {n : Nat} (hn : 0 < n) : Txt.startswith (nt n) (Str.ofString "0") = false := by
  unfold Txt.startswith
  obtain ⟨c, r, e, hc⟩ := numL_head n hn
  rw [Bool.and_eq_false_iff]
  right
  unfold Builtin.Str.subAt
  rw [show (Str.ofString "0") = ⟨#[48]⟩ by decide +kernel]
  rw [beq_eq_false_iff_ne]
  intro z
  have z2 := congrArg Array.toList z
  rw [Array.toList_extract] at z2
  rw [cps_nt, e] at z2
  simp at z2
  have z3 : List.take 1 (c :: r) = [48] := z2
  simp at z3
  exact hc z3
/-- the text of an amount -/
def amTxt (q : Rat) : Str := if q.den = 1 then nt q.num.toNat else nt q.num.toNat ++ Str.ofString "/" ++ nt q.den
theorem slash_nt (n : Nat) : 47 ∉ tl (nt n) := fun h => by rw [tl_nt] at h; have := numL_range h; omega
theorem slash : Str.ofString "/" = ⟨#[47]⟩ := by decide +kernel
theorem part_nt (n : Nat) : Txt.partition (nt n) (Str.ofString "/") = (nt n, Str.empty, Str.empty) := partition_none (y := Str.ofString "/") (s := 47) (S := []) (by rw [slash]) (slash_nt n)
theorem part_am (n d : Nat) : Txt.partition (nt n ++ Str.ofString "/" ++ nt d) (Str.ofString "/") = (nt n, Str.ofString "/", nt d) := partition_app (y := Str.ofString "/") (s := 47) (S := []) (by rw [slash]) (slash_nt n)
theorem joinL_nil : ∀ l : List (List Nat), joinL [] l = l.flatten
  | [] => rfl
  | [p] => by simp [joinL]
  | p :: q :: r => by
    show p ++ ([] ++ joinL [] (q :: r)) = _
    rw [joinL_nil (q :: r)]
    simp
theorem tl_join0 (parts : List Str) : tl (Txt.join Str.empty parts) = (parts.map tl).flatten := by
  rw [join_eq, tl_join]
  exact joinL_nil _
theorem len_sum : ∀ parts : List Str, (parts.map (·.length)).sum = (parts.map tl).flatten.length
  | [] => rfl
  | p :: r => by
    show p.length + (r.map (·.length)).sum = (tl p ++ (r.map tl).flatten).length
    rw [List.length_append, len_sum r]
    congr 1
theorem bits_lt {n b : Nat} (h : n < 2 ^ b) : n < 10 ^ b := Nat.lt_of_lt_of_le h (Nat.pow_le_pow_left (by decide) b)
theorem log_lt {n b : Nat} (hb : 0 < b) (h : n < 2 ^ b) : n.log2 < b := PySem.Flt.log2_lt_of hb h
end Yk

set_option maxHeartbeats 1000000
namespace Yk
open PySem PySem.Spec PyProof.Rows L2

section
variable {P : Program} {w : World} {K : PySem.W.Frag} {mg : Str → Option Value} {base : Heap} {f : Addr} {fd : FuncData}
abbrev s_added : Stmt := top 15
theorem c_added : FnScope ["first", "second", "top", "bottom", "other_top", "other_bottom", "common", "rest", "new_top", "shared"] ["first", "second"] (defScope s_added) := ⟨rfl, rfl, rfl, by decide +kernel, rfl, by decide +kernel, by decide +kernel⟩
theorem f_added (F : FunD K "_added" "_added" (defArgs s_added) (defBody s_added) (defScope s_added) [] [] f fd) (hm : mg "_added" = some (.ref f)) (T : Bg mg) : Fn P w K mg base 1 "_added" (spAdded K) := by
  refine fn_def F hm c_added (fun vs H Q E h => ?_) (fun _ _ _ _ _ _ us hl => match us, hl with | [_, _], _ => rfl) (fun cdv A outer s H vs Q E hr h => ?_)
  · obtain ⟨v1, v2, p, q, rfl, _⟩ := h
    rfl
  · obtain ⟨v1, v2, p, q, rfl, ⟨a1, rfl, h1⟩, ⟨a2, rfl, h2⟩, z1, z2, k⟩ := h
    have nd := c_added.nd
    refine ⟨_, (pss_cons (ps_asg (pv 0) (pg_tup rfl (pgs_cons (pg_name (i := 2) nd rfl (by first | exact Or.inl rfl | exact Or.inr rfl)) (pgs_cons (pg_name (i := 3) nd rfl (by first | exact Or.inl rfl | exact Or.inr rfl)) pgs_nil))))
      (pss_cons (ps_asg (pv 1) (pg_tup rfl (pgs_cons (pg_name (i := 4) nd rfl (by first | exact Or.inl rfl | exact Or.inr rfl)) (pgs_cons (pg_name (i := 5) nd rfl (by first | exact Or.inl rfl | exact Or.inr rfl)) pgs_nil))))
      (pss_cons (ps_set (i := 6) nd rfl (by first | exact Or.inl rfl | exact Or.inr rfl) (pe_callBfun cr_gcd (by rfl) T.gcd (pa_cons (pv 3) (pa_cons (pv 5) pa_nil))))
      (pss_cons (ps_set (i := 7) nd rfl (by first | exact Or.inl rfl | exact Or.inr rfl) (pe_op op_fdivW (pv 3) (pv 6)))
      (pss_cons (ps_set (i := 8) nd rfl (by first | exact Or.inl rfl | exact Or.inr rfl) (pe_op op_add (pe_op op_mulW (pv 2) (pe_op op_fdivW (pv 5) (pv 6))) (pe_op op_mulW (pv 4) (pv 7))))
      (pss_cons (ps_set (i := 9) nd rfl (by first | exact Or.inl rfl | exact Or.inr rfl) (pe_callBfun cr_gcd (by rfl) T.gcd (pa_cons (pv 8) (pa_cons (pv 6) pa_nil))))
      (pss_one (ps_ret (pe_tup (pa_cons (pe_op op_fdivW (pv 8) (pv 9)) (pa_cons (pe_op op_mulW (pv 7) (pe_op op_fdivW (pv 5) (pv 9))) pa_nil))))))))))), ?_⟩
    show (_ : TS) _ [some _, some _, none, none, none, none, none, none, none, none] _
    try dsimp only [cxOf, Cx.nox]
    have g0 : 0 < Nat.gcd p.den q.den := Nat.gcd_pos_of_pos_left _ p.den_pos
    have gl : Nat.gcd p.den q.den < 2 ^ 4000 := Nat.lt_of_le_of_lt (Nat.gcd_le_left _ p.den_pos) z1.2
    have e1 : (p.den : Int).natAbs < 2 ^ 4000 := z1.2
    have e2 : (q.den : Int).natAbs < 2 ^ 4000 := z2.2
    have d1 : ∀ i : Int, CDivW i ((Nat.gcd p.den q.den : Nat) : Int) := fun i => cdiv g0 gl (by decide) (by decide)
    have m1 : CMulW p.num ((q.den : Int) / ((Nat.gcd p.den q.den : Nat) : Int)) := cmul z1.1 (dlt e2) (by decide) (by decide) (by decide)
    have m2 : CMulW q.num ((p.den : Int) / ((Nat.gcd p.den q.den : Nat) : Int)) := cmul z2.1 (dlt e1) (by decide) (by decide) (by decide)
    have s0 : ∀ n : Nat, 0 < Nat.gcd n (Nat.gcd p.den q.den) := fun n => Nat.gcd_pos_of_pos_right _ g0
    have sl : ∀ n : Nat, Nat.gcd n (Nat.gcd p.den q.den) < 2 ^ 4000 := fun n => Nat.lt_of_le_of_lt (Nat.gcd_le_right _ g0) gl
    have d2 : ∀ (i : Int) (n : Nat), CDivW i ((Nat.gcd n (Nat.gcd p.den q.den) : Nat) : Int) := fun i n => cdiv (s0 n) (sl n) (by decide) (by decide)
    have m3 : ∀ n : Nat, CMulW ((p.den : Int) / ((Nat.gcd p.den q.den : Nat) : Int)) ((q.den : Int) / ((Nat.gcd n (Nat.gcd p.den q.den) : Nat) : Int)) := fun n => cmul (dlt e1) (dlt e2) (by decide) (by decide) (by decide)
    walk_at "go"
    refine r_I (d1 _) ?_
    walk_at "go"
    refine r_I (d1 _) ?_
    walk_at "go"
    refine r_I (d2 _ _) ?_
    walk_at "go"
    refine r_I (d2 _ _) ?_
    walk_at "go"
    refine r_I (m3 _) ?_
    walk_at "go"
    refine k _ _ (Ext.refl.new (by assumption)) ⟨_, rfl, ?_⟩
    obtain ⟨x1, x2⟩ := add_int p q
    rw [x1, x2]
    exact tupS
end
end Yk

set_option maxHeartbeats 1000000
namespace Yk
open PySem PySem.Spec PyProof.Rows L2

section
variable {P : Program} {w : World} {K : PySem.W.Frag} {mg : Str → Option Value} {base : Heap} {f : Addr} {fd : FuncData}
def spProd (K : PySem.W.Frag) : Sp := fun vs H Q _ => ∃ p q : Rat, vs = [.int p.num, .int (p.den : Int), .int q.num, .int (q.den : Int)] ∧ Sz 4000 p ∧ Sz 4000 q ∧ RetAm K H Q (p * q)
abbrev s_product : Stmt := top 18
theorem c_product : FnScope ["top", "bottom", "other_top", "other_bottom", "left", "right"] ["top", "bottom", "other_top", "other_bottom"] (defScope s_product) := ⟨rfl, rfl, rfl, by decide +kernel, rfl, by decide +kernel, by decide +kernel⟩
theorem f_product (F : FunD K "_product" "_product" (defArgs s_product) (defBody s_product) (defScope s_product) [] [] f fd) (hm : mg "_product" = some (.ref f)) (T : Bg mg) : Fn P w K mg base 1 "_product" (spProd K) := by
  refine fn_def F hm c_product (fun vs H Q E h => ?_) (fun _ _ _ _ _ _ us hl => match us, hl with | [_, _, _, _], _ => rfl) (fun cdv A outer s H vs Q E hr h => ?_)
  · obtain ⟨p, q, rfl, _⟩ := h
    rfl
  · obtain ⟨p, q, rfl, z1, z2, k⟩ := h
    have nd := c_product.nd
    refine ⟨_, (pss_cons (ps_set (i := 4) nd rfl (by first | exact Or.inl rfl | exact Or.inr rfl) (pe_callBfun cr_gcd (by rfl) T.gcd (pa_cons (pv 0) (pa_cons (pv 3) pa_nil))))
      (pss_cons (ps_set (i := 5) nd rfl (by first | exact Or.inl rfl | exact Or.inr rfl) (pe_callBfun cr_gcd (by rfl) T.gcd (pa_cons (pv 2) (pa_cons (pv 1) pa_nil))))
      (pss_one (ps_ret (pe_tup (pa_cons (pe_op op_mulW (pe_op op_fdivW (pv 0) (pv 4)) (pe_op op_fdivW (pv 2) (pv 5))) (pa_cons (pe_op op_mulW (pe_op op_fdivW (pv 1) (pv 5)) (pe_op op_fdivW (pv 3) (pv 4))) pa_nil))))))), ?_⟩
    show (_ : TS) _ [some _, some _, some _, some _, none, none] _
    try dsimp only [cxOf, Cx.nox]
    have g1 : 0 < Nat.gcd p.num.natAbs q.den := Nat.gcd_pos_of_pos_right _ q.den_pos
    have g2 : 0 < Nat.gcd q.num.natAbs p.den := Nat.gcd_pos_of_pos_right _ p.den_pos
    have l1 : Nat.gcd p.num.natAbs q.den < 2 ^ 4000 := Nat.lt_of_le_of_lt (Nat.gcd_le_right _ q.den_pos) z2.2
    have l2 : Nat.gcd q.num.natAbs p.den < 2 ^ 4000 := Nat.lt_of_le_of_lt (Nat.gcd_le_right _ p.den_pos) z1.2
    have e1 : (p.den : Int).natAbs < 2 ^ 4000 := z1.2
    have e2 : (q.den : Int).natAbs < 2 ^ 4000 := z2.2
    have d1 : ∀ i : Int, CDivW i ((Nat.gcd p.num.natAbs q.den : Nat) : Int) := fun i => cdiv g1 l1 (by decide) (by decide)
    have d2 : ∀ i : Int, CDivW i ((Nat.gcd q.num.natAbs p.den : Nat) : Int) := fun i => cdiv g2 l2 (by decide) (by decide)
    have m1 : CMulW (p.num / ((Nat.gcd p.num.natAbs q.den : Nat) : Int)) (q.num / ((Nat.gcd q.num.natAbs p.den : Nat) : Int)) := cmul (dlt z1.1) (dlt z2.1) (by decide) (by decide) (by decide)
    have m2 : CMulW ((p.den : Int) / ((Nat.gcd q.num.natAbs p.den : Nat) : Int)) ((q.den : Int) / ((Nat.gcd p.num.natAbs q.den : Nat) : Int)) := cmul (dlt e1) (dlt e2) (by decide) (by decide) (by decide)
    walk_at "go"
    refine r_I (d1 _) ?_
    walk_at "go"
    refine r_I (d2 _) ?_
    walk_at "go"
    refine r_I (d2 _) ?_
    walk_at "go"
    refine r_I (d1 _) ?_
    walk_at "go"
    refine k _ _ (Ext.refl.new (by assumption)) ⟨_, rfl, ?_⟩
    obtain ⟨x1, x2⟩ := mul_int' p q
    rw [x1, x2]
    exact tupS
def spTimes (K : PySem.W.Frag) : Sp := fun vs H Q _ => ∃ v1 v2 p q, vs = [v1, v2] ∧ Am K H v1 p ∧ Am K H v2 q ∧ Sz 4000 p ∧ Sz 4000 q ∧ RetAm K H Q (p * q)
abbrev s_times : Stmt := top 16
theorem c_times : FnScope ["first", "second"] ["first", "second"] (defScope s_times) := ⟨rfl, rfl, rfl, by decide +kernel, rfl, by decide +kernel, by decide +kernel⟩
theorem f_times (F : FunD K "times" "times" (defArgs s_times) (defBody s_times) (defScope s_times) [] [] f fd) (hm : mg "times" = some (.ref f)) (F_product : Fn P w K mg base 1 "_product" (spProd K)) : Fn P w K mg base 2 "times" (spTimes K) := by
  refine fn_def F hm c_times (fun vs H Q E h => ?_) (fun _ _ _ _ _ _ us hl => match us, hl with | [_, _], _ => rfl) (fun cdv A outer s H vs Q E hr h => ?_)
  · obtain ⟨v1, v2, p, q, rfl, _⟩ := h
    rfl
  · obtain ⟨v1, v2, p, q, rfl, ⟨a1, rfl, h1⟩, ⟨a2, rfl, h2⟩, z1, z2, k⟩ := h
    have nd := c_times.nd
    refine ⟨_, (pss_one (ps_ret (pe_fn F_product (hr.mono (by decide)) (pa_cons (pe_ix ix_tup (pv 0) pe_int (fun _ _ => rfl)) (pa_cons (pe_ix ix_tup (pv 0) pe_int (fun _ _ => rfl)) (pa_cons (pe_ix ix_tup (pv 1) pe_int (fun _ _ => rfl)) (pa_cons (pe_ix ix_tup (pv 1) pe_int (fun _ _ => rfl)) pa_nil))))))), ?_⟩
    show (_ : TS) _ [some _, some _] _
    try dsimp only [cxOf, Cx.nox]
    walk_at "go"
    exact ⟨p, q, rfl, z1, z2, k⟩
def spOver (K : PySem.W.Frag) : Sp := fun vs H Q _ => ∃ v1 v2 p q, vs = [v1, v2] ∧ Am K H v1 p ∧ Am K H v2 q ∧ 0 < q ∧ Sz 4000 p ∧ Sz 4000 q ∧ RetAm K H Q (p / q)
def cmpQ (p q : Rat) : Int := if p < q then -1 else if q < p then 1 else 0
def spCompare (K : PySem.W.Frag) : Sp := fun vs H Q _ => ∃ v1 v2 p q, vs = [v1, v2] ∧ Am K H v1 p ∧ Am K H v2 q ∧ Sz 4000 p ∧ Sz 4000 q ∧ Q (.int (cmpQ p q)) H
abbrev s_compare : Stmt := top 19
theorem c_compare : FnScope ["first", "second", "left", "right"] ["first", "second"] (defScope s_compare) := ⟨rfl, rfl, rfl, by decide +kernel, rfl, by decide +kernel, by decide +kernel⟩
theorem f_compare (F : FunD K "compare" "compare" (defArgs s_compare) (defBody s_compare) (defScope s_compare) [] [] f fd) (hm : mg "compare" = some (.ref f))  : Fn P w K mg base 1 "compare" (spCompare K) := by
  refine fn_def F hm c_compare (fun vs H Q E h => ?_) (fun _ _ _ _ _ _ us hl => match us, hl with | [_, _], _ => rfl) (fun cdv A outer s H vs Q E hr h => ?_)
  · obtain ⟨v1, v2, p, q, rfl, _⟩ := h
    rfl
  · obtain ⟨v1, v2, p, q, rfl, ⟨a1, rfl, h1⟩, ⟨a2, rfl, h2⟩, z1, z2, k⟩ := h
    have nd := c_compare.nd
    refine ⟨_, (pss_cons (ps_set (i := 2) nd rfl (by first | exact Or.inl rfl | exact Or.inr rfl) (pe_op op_mulW (pe_ix ix_tup (pv 0) pe_int (fun _ _ => rfl)) (pe_ix ix_tup (pv 1) pe_int (fun _ _ => rfl))))
      (pss_cons (ps_set (i := 3) nd rfl (by first | exact Or.inl rfl | exact Or.inr rfl) (pe_op op_mulW (pe_ix ix_tup (pv 1) pe_int (fun _ _ => rfl)) (pe_ix ix_tup (pv 0) pe_int (fun _ _ => rfl))))
      (pss_cons (ps_if (pt_cmpR op_lt (pv 2) (pv 3) (nomark _))
        (pss_one (ps_ret (pe_un un_neg pe_int)))
        pss_nil)
      (pss_cons (ps_if (pt_cmpR op_gt (pv 2) (pv 3) (nomark _))
        (pss_one (ps_ret pe_int))
        pss_nil)
      (pss_one (ps_ret pe_int)))))), ?_⟩
    show (_ : TS) _ [some _, some _, none, none] _
    try dsimp only [cxOf, Cx.nox]
    have e1 : (p.den : Int).natAbs < 2 ^ 4000 := z1.2
    have e2 : (q.den : Int).natAbs < 2 ^ 4000 := z2.2
    have m1 : CMulW p.num (q.den : Int) := cmul z1.1 e2 (by decide) (by decide) (by decide)
    have m2 : CMulW q.num (p.den : Int) := cmul z2.1 e1 (by decide) (by decide) (by decide)
    walk_at "go"
    refine r_dec (fun hlt => ?_) (fun hlt => ?_)
    · walk_at "go"
      unfold cmpQ at k
      rw [if_pos ((Rat.lt_iff p q).mpr hlt)] at k
      exact k
    · walk_at "go"
      have n1 : ¬ p < q := fun z => hlt ((Rat.lt_iff p q).mp z)
      refine r_dec (fun hgt => ?_) (fun hgt => ?_)
      · walk_at "go"
        unfold cmpQ at k
        rw [if_neg n1, if_pos ((Rat.lt_iff q p).mpr hgt)] at k
        exact k
      · walk_at "go"
        have n2 : ¬ q < p := fun z => hgt ((Rat.lt_iff q p).mp z)
        unfold cmpQ at k
        rw [if_neg n1, if_neg n2] at k
        exact k
def spMinus (K : PySem.W.Frag) : Sp := fun vs H Q _ => ∃ v1 v2 p q, vs = [v1, v2] ∧ Am K H v1 p ∧ Am K H v2 q ∧ q ≤ p ∧ Sz 4000 p ∧ Sz 4000 q ∧ RetAm K H Q (p - q)
abbrev s_minus : Stmt := top 14
theorem c_minus : FnScope ["first", "second"] ["first", "second"] (defScope s_minus) := ⟨rfl, rfl, rfl, by decide +kernel, rfl, by decide +kernel, by decide +kernel⟩
theorem f_minus (F : FunD K "minus" "minus" (defArgs s_minus) (defBody s_minus) (defScope s_minus) [] [] f fd) (hm : mg "minus" = some (.ref f)) (Fcompare : Fn P w K mg base 1 "compare" (spCompare K)) (F_added : Fn P w K mg base 1 "_added" (spAdded K)) : Fn P w K mg base 2 "minus" (spMinus K) := by
  refine fn_def F hm c_minus (fun vs H Q E h => ?_) (fun _ _ _ _ _ _ us hl => match us, hl with | [_, _], _ => rfl) (fun cdv A outer s H vs Q E hr h => ?_)
  · obtain ⟨v1, v2, p, q, rfl, _⟩ := h
    rfl
  · obtain ⟨v1, v2, p, q, rfl, ⟨a1, rfl, h1⟩, ⟨a2, rfl, h2⟩, hle, z1, z2, k⟩ := h
    have nd := c_minus.nd
    refine ⟨_, (pss_cons (ps_if (pt_cmpR op_lt (pe_fn Fcompare (hr.mono (by decide)) (pa_cons (pv 0) (pa_cons (pv 1) pa_nil))) pe_int (nomark _))
        (pss_one ps_never)
        pss_nil)
      (pss_one (ps_ret (pe_fn F_added (hr.mono (by decide)) (pa_cons (pv 0) (pa_cons (pe_tup (pa_cons (pe_un un_neg (pe_ix ix_tup (pv 1) pe_int (fun _ _ => rfl))) (pa_cons (pe_ix ix_tup (pv 1) pe_int (fun _ _ => rfl)) pa_nil))) pa_nil)))))), ?_⟩
    show (_ : TS) _ [some _, some _] _
    try dsimp only [cxOf, Cx.nox]
    walk_at "go"
    refine ⟨_, _, p, q, rfl, ⟨_, rfl, h1⟩, ⟨_, rfl, h2⟩, z1, z2, ?_⟩
    walk_at "go"
    have n1 : ¬ cmpQ p q < 0 := by
      unfold cmpQ
      rw [if_neg (Rat.not_lt.mpr hle)]
      split <;> omega
    refine r_dec (fun hlt => absurd hlt n1) (fun _ => ?_)
    walk_at "go"
    refine ⟨_, _, p, -q, rfl, ⟨_, rfl, tupN h1 (by assumption)⟩, ⟨_, rfl, ?_⟩, z1, sz_neg z2, fun v H' e a => ?_⟩
    · rw [Rat.neg_num]
      exact tupS
    · refine k v H' ((Ext.refl.new (by assumption)).trans e) ?_
      rw [Rat.sub_eq_add_neg]
      exact a
abbrev s_over : Stmt := top 17
theorem c_over : FnScope ["first", "second"] ["first", "second"] (defScope s_over) := ⟨rfl, rfl, rfl, by decide +kernel, rfl, by decide +kernel, by decide +kernel⟩
theorem f_over (F : FunD K "over" "over" (defArgs s_over) (defBody s_over) (defScope s_over) [] [] f fd) (hm : mg "over" = some (.ref f)) (TZ : ∃ z, mg "ZERO" = some (.ref z) ∧ ∀ H, SqT K H z [.int 0, .int 1]) (F_product : Fn P w K mg base 1 "_product" (spProd K)) : Fn P w K mg base 2 "over" (spOver K) := by
  refine fn_def F hm c_over (fun vs H Q E h => ?_) (fun _ _ _ _ _ _ us hl => match us, hl with | [_, _], _ => rfl) (fun cdv A outer s H vs Q E hr h => ?_)
  · obtain ⟨v1, v2, p, q, rfl, _⟩ := h
    rfl
  · obtain ⟨v1, v2, p, q, rfl, ⟨a1, rfl, h1⟩, ⟨a2, rfl, h2⟩, hq, z1, z2, k⟩ := h
    have nd := c_over.nd
    obtain ⟨z, mz, TZ⟩ := TZ
    refine ⟨_, (pss_cons (ps_if (pt_cmpR (op_eqD hr.units) (pv 1) (pe_glob (v := .ref z) rfl mz rfl) (nomark _))
        (pss_one ps_never)
        pss_nil)
      (pss_one (ps_ret (pe_fn F_product (hr.mono (by decide)) (pa_cons (pe_ix ix_tup (pv 0) pe_int (fun _ _ => rfl)) (pa_cons (pe_ix ix_tup (pv 0) pe_int (fun _ _ => rfl)) (pa_cons (pe_ix ix_tup (pv 1) pe_int (fun _ _ => rfl)) (pa_cons (pe_ix ix_tup (pv 1) pe_int (fun _ _ => rfl)) pa_nil)))))))), ?_⟩
    show (_ : TS) _ [some _, some _] _
    try dsimp only [cxOf, Cx.nox]
    walk_at "go"
    refine ⟨_, _, .tup (h2) (.cons (.int _) (.cons (.int _) .nil)), .tup (TZ _) (.cons (.int _) (.cons (.int _) .nil)), rfl, rfl, ?_⟩
    walk_at "go"
    obtain ⟨i1, i2⟩ := inv_parts hq
    have hn : ¬ q.num = 0 := by have := num_pos' hq; omega
    have en : PyData.eqv (PyData.tuple [PyData.int q.num, PyData.int ↑q.den]) (PyData.tuple [PyData.int 0, PyData.int 1]) = false := by
      simp [PyData.eqv, PyData.eqvAll, hn]
    rw [en]
    refine iteF ?_
    walk_at "go"
    refine ⟨p, q⁻¹, ?_, z1, sz_inv z2 hq, fun v H' e a => k v H' e ?_⟩
    · rw [i1, i2]
    · rw [Rat.div_def]
      exact a
/-- the sum of a row, from the left -/
def sumQ (qs : List Rat) : Rat := qs.foldl (· + ·) 0
theorem sumQ_take {qs : List Rat} {i : Nat} {q : Rat} (h : qs[i]? = some q) : sumQ (qs.take (i + 1)) = sumQ (qs.take i) + q := by
  obtain ⟨hl, e⟩ := List.getElem?_eq_some_iff.mp h
  unfold sumQ
  rw [← List.take_append_getElem hl, List.foldl_append, e]
  rfl
theorem sumQ_sz {m : Nat} : ∀ {qs : List Rat} (i : Nat), (∀ q ∈ qs, Sz m q) → i ≤ qs.length → Sz (1 + i * (m + 1)) (sumQ (qs.take i))
  | qs, 0, _, _ => by
    rw [List.take_zero]
    refine ⟨Nat.two_pow_pos _, ?_⟩
    rw [Nat.zero_mul]
    decide
  | qs, i + 1, h, hi => by
    have hq : qs[i]? = some qs[i] := List.getElem?_eq_getElem hi
    rw [sumQ_take hq]
    have h1 := sumQ_sz i h (by omega)
    have h2 := h qs[i] (List.getElem_mem hi)
    refine (sz_add h1 h2).mono ?_
    rw [Nat.add_mul]
    omega
def spPlusT (K : PySem.W.Frag) : Sp := fun vs H Q _ => ∃ t xs qs m, vs = [V.ref t] ∧ SqT K H t xs ∧ Ams K H xs qs ∧ (∀ q ∈ qs, Sz m q) ∧ m ≤ 4000 ∧ 1 + qs.length * (m + 1) ≤ 4000 ∧ RetAm K H Q (sumQ qs)
def spPlus (K : PySem.W.Frag) : Sp := fun vs H Q _ => ∃ qs m, Ams K H vs qs ∧ (∀ q ∈ qs, Sz m q) ∧ m ≤ 4000 ∧ 1 + qs.length * (m + 1) ≤ 4000 ∧ RetAm K H Q (sumQ qs)
abbrev s_plus : Stmt := top 13
theorem c_plus : FnScope ["amounts", "found", "further"] ["amounts"] (defScope s_plus) := ⟨rfl, rfl, rfl, by decide +kernel, rfl, by decide +kernel, by decide +kernel⟩
theorem f_plus (F : FunD K "plus" "plus" (defArgs s_plus) (defBody s_plus) (defScope s_plus) [] [] f fd) (hm : mg "plus" = some (.ref f)) (TZ : ∃ z, mg "ZERO" = some (.ref z) ∧ ∀ H, SqT K H z [.int 0, .int 1]) (F_added : Fn P w K mg base 1 "_added" (spAdded K)) : Fn P w K mg base 2 "plus" (spPlus K) := by
  refine fn_star (ps := []) (pv := "amounts") (sp := spPlusT K) F hm c_plus (fun _ _ _ _ _ _ us rest hl => match us, rest, hl with | [], [], _ => rfl | [], _ :: _, _ => rfl) (fun cdv A outer s H vs Q E hr h => ?_) ?himp
  case himp =>
    exact fun vs H Q E ⟨qs, m, h1, h2, h3, h4, k⟩ => ⟨[], vs, rfl, rfl, Nat.le_trans (by rw [h1.1]; have := Nat.le_mul_of_pos_right qs.length (show 0 < m + 1 by omega); omega : vs.length ≤ 4000) (by decide), fun p hp => ⟨p, vs, qs, m, rfl, tupS, h1.x0 (Ext.refl.new hp), h2, h3, h4, fun v H' e a => k v H' ((Ext.refl.new hp).trans e) a⟩⟩
  · obtain ⟨t, xs, qs, m, rfl, ht, ha, hz, hm, hl, k⟩ := h
    have nd := c_plus.nd
    obtain ⟨z, mz, TZ⟩ := TZ
    refine ⟨_, (pss_cons (ps_set (i := 1) nd rfl (by first | exact Or.inl rfl | exact Or.inr rfl) (pe_glob (v := .ref z) rfl mz rfl))
      (pss_cons (ps_for PassesOwn.never rfl (pi_tup (pv 0)) (pg_name (i := 2) nd rfl (by first | exact Or.inl rfl | exact Or.inr rfl))
        (pss_one (ps_set (i := 1) nd rfl (by first | exact Or.inl rfl | exact Or.inr rfl) (pe_fn F_added (hr.mono (by decide)) (pa_cons (pv 1) (pa_cons (pv 2) pa_nil))))))
      (pss_one (ps_ret (pv 1))))), ?_⟩
    show (_ : TS) _ [some _, none, none] _
    try dsimp only [cxOf, Cx.nox]
    walk_at "go"
    refine r_forT rfl ht (fun i σ H1 => Ext [] H H1 ∧ ∃ fv u, σ = [some (.ref t), some fv, u] ∧ Am K H1 fv (sumQ (qs.take i))) ⟨Ext.refl, _, _, rfl, ⟨z, rfl, TZ _⟩⟩ (fun i σ H1 _ h => tup0 h.1 ht) ?_ ?_
    · rintro i x σ H1 hx ⟨e1, fv, u, rfl, hf⟩
      have hi : i < qs.length := by rw [← ha.1]; exact (List.getElem?_eq_some_iff.mp hx).1
      have hq : qs[i]? = some qs[i] := List.getElem?_eq_getElem hi
      have hb := sumQ_sz i hz (by omega)
      have hsz : 1 + i * (m + 1) ≤ 4000 := Nat.le_trans (by have := Nat.mul_le_mul_right (m + 1) (Nat.le_of_lt hi); omega) hl
      walk_at "go"
      refine ⟨_, _, _, qs[i], rfl, hf, (ha.2 i x _ hx hq).x0 e1, hb.mono hsz, (hz _ (List.getElem_mem hi)).mono hm, fun v H' e a => ?_⟩
      walk_at "go"
      refine ⟨e1.trans e, _, _, rfl, ?_⟩
      rw [sumQ_take hq]
      exact a
    · rintro σ H1 ⟨e1, fv, u, rfl, hf⟩
      walk_at "go"
      rw [ha.1, List.take_length] at hf
      exact k _ _ e1 hf
end
end Yk

set_option maxHeartbeats 1000000
namespace Yk
open PySem PySem.Spec PyProof.Rows L2

section
variable {P : Program} {w : World} {K : PySem.W.Frag} {mg : Str → Option Value} {base : Heap} {f : Addr} {fd : FuncData}
def spMinT (F : Rat → List Rat → Rat) (K : PySem.W.Frag) : Sp := fun vs H Q _ => ∃ v0 q0 t xs qs, vs = [v0, V.ref t] ∧ Am K H v0 q0 ∧ Sz 4000 q0 ∧ SqT K H t xs ∧ Ams K H xs qs ∧ (∀ q ∈ qs, Sz 4000 q) ∧ RetAm K H Q (F q0 qs)
def spMin (F : Rat → List Rat → Rat) (K : PySem.W.Frag) : Sp := fun vs H Q _ => ∃ q0 qs, Ams K H vs (q0 :: qs) ∧ (∀ q ∈ q0 :: qs, Sz 4000 q) ∧ qs.length ≤ 4000 ∧ RetAm K H Q (F q0 qs)
theorem spMin_imp {F : Rat → List Rat → Rat} : ∀ vs H Q E, spMin F K vs H Q E → ∃ ws rest, vs = ws ++ rest ∧ ws.length = (["first"] : List Str).length ∧ rest.length ≤ sizeLine ∧ ∀ p, H p = none → spMinT F K (ws ++ [V.ref p]) (upd H p (.tup rest)) Q E := by
  rintro vs H Q E ⟨q0, qs, h1, h2, h3, k⟩
  cases vs with
  | nil => exact absurd h1.1 (by simp)
  | cons v0 rest =>
    have hl : rest.length = qs.length := by simpa using h1.1
    have h4 : Ams K H rest qs := ⟨hl, fun i v q a b => h1.2 (i + 1) v q (by simpa using a) (by simpa using b)⟩
    refine ⟨[v0], rest, rfl, rfl, Nat.le_trans (by omega : rest.length ≤ 4000) (by decide), fun p hp => ⟨v0, q0, p, rest, qs, rfl, (h1.2 0 v0 q0 rfl rfl).x0 (Ext.refl.new hp), h2 q0 List.mem_cons_self, tupS, h4.x0 (Ext.refl.new hp), fun q hq => h2 q (List.mem_cons_of_mem _ hq), fun v H' e a => k v H' ((Ext.refl.new hp).trans e) a⟩⟩
theorem cmp_lt (p q : Rat) : cmpQ p q < 0 ↔ p < q := by
  unfold cmpQ
  by_cases h : p < q
  · rw [if_pos h]; exact ⟨fun _ => h, fun _ => by decide⟩
  · rw [if_neg h]
    refine ⟨fun z => ?_, fun z => absurd z h⟩
    split at z <;> omega
theorem cmp_gt (p q : Rat) : 0 < cmpQ p q ↔ q < p := by
  unfold cmpQ
  by_cases h : p < q
  · rw [if_pos h]
    exact ⟨fun z => by omega, fun z => absurd (Rat.le_of_lt h) (Rat.not_le.mpr z)⟩
  · rw [if_neg h]
    by_cases h2 : q < p
    · rw [if_pos h2]; exact ⟨fun _ => h2, fun _ => by decide⟩
    · rw [if_neg h2]; exact ⟨fun z => by omega, fun z => absurd z h2⟩
abbrev s_smallest : Stmt := top 20
theorem c_smallest : FnScope ["first", "others", "found", "other"] ["first", "others"] (defScope s_smallest) := ⟨rfl, rfl, rfl, by decide +kernel, rfl, by decide +kernel, by decide +kernel⟩
theorem f_smallest (F : FunD K "smallest" "smallest" (defArgs s_smallest) (defBody s_smallest) (defScope s_smallest) [] [] f fd) (hm : mg "smallest" = some (.ref f)) (Fcompare : Fn P w K mg base 1 "compare" (spCompare K)) : Fn P w K mg base 2 "smallest" (spMin minQ K) := by
  refine fn_star (ps := ["first"]) (pv := "others") (sp := spMinT minQ K) F hm c_smallest (fun _ _ _ _ _ _ us rest hl => match us, rest, hl with | [_], [], _ => rfl | [_], _ :: _, _ => rfl) (fun cdv A outer s H vs Q E hr h => ?_) ?himp
  case himp =>
    exact spMin_imp
  · obtain ⟨v0, q0, t, xs, qs, rfl, h0, z0, ht, ha, hz, k⟩ := h
    have nd := c_smallest.nd
    refine ⟨_, (pss_cons (ps_set (i := 2) nd rfl (by first | exact Or.inl rfl | exact Or.inr rfl) (pv 0))
      (pss_cons (ps_for PassesOwn.never rfl (pi_tup (pv 1)) (pg_name (i := 3) nd rfl (by first | exact Or.inl rfl | exact Or.inr rfl))
        (pss_one (ps_if (pt_cmpR op_lt (pe_fn Fcompare (hr.mono (by decide)) (pa_cons (pv 3) (pa_cons (pv 2) pa_nil))) pe_int (nomark _))
          (pss_one (ps_set (i := 2) nd rfl (by first | exact Or.inl rfl | exact Or.inr rfl) (pv 3)))
          pss_nil)))
      (pss_one (ps_ret (pv 2))))), ?_⟩
    show (_ : TS) _ [some _, some _, none, none] _
    try dsimp only [cxOf, Cx.nox]
    walk_at "go"
    refine r_forT rfl ht (fun i σ H1 => H1 = H ∧ ∃ fv u, σ = [some v0, some (.ref t), some fv, u] ∧ Am K H fv (minQ q0 (qs.take i))) ⟨rfl, _, _, rfl, h0⟩ (fun i σ H1 _ h => h.1 ▸ ht) ?_ ?_
    · rintro i x σ H1 hx ⟨rfl, fv, u, rfl, hf⟩
      obtain ⟨q, hq, hxq⟩ := ha.at_ hx
      have sf : Sz 4000 (minQ q0 (qs.take i)) := minQ_mem z0 fun y hy => hz y (List.mem_of_mem_take hy)
      walk_at "go"
      refine ⟨_, _, q, _, rfl, hxq, hf, hz q (List.mem_of_getElem? hq), sf, ?_⟩
      walk_at "go"
      refine r_dec (fun hlt => ?_) (fun hge => ?_)
      · walk_at "go"
        refine ⟨rfl, _, _, rfl, ?_⟩
        unfold minQ
        rw [fold_take hq]
        show Am K H1 x (if q < minQ q0 (qs.take i) then q else minQ q0 (qs.take i))
        rw [if_pos ((cmp_lt _ _).mp hlt)]
        exact hxq
      · walk_at "go"
        refine ⟨rfl, _, _, rfl, ?_⟩
        unfold minQ
        rw [fold_take hq]
        show Am K H1 fv (if q < minQ q0 (qs.take i) then q else minQ q0 (qs.take i))
        rw [if_neg fun z => hge ((cmp_lt _ _).mpr z)]
        exact hf
    · rintro σ H1 ⟨rfl, fv, u, rfl, hf⟩
      walk_at "go"
      rw [ha.1, List.take_length] at hf
      exact k _ _ Ext.refl hf
abbrev s_largest : Stmt := top 21
theorem c_largest : FnScope ["first", "others", "found", "other"] ["first", "others"] (defScope s_largest) := ⟨rfl, rfl, rfl, by decide +kernel, rfl, by decide +kernel, by decide +kernel⟩
theorem f_largest (F : FunD K "largest" "largest" (defArgs s_largest) (defBody s_largest) (defScope s_largest) [] [] f fd) (hm : mg "largest" = some (.ref f)) (Fcompare : Fn P w K mg base 1 "compare" (spCompare K)) : Fn P w K mg base 2 "largest" (spMin maxQ K) := by
  refine fn_star (ps := ["first"]) (pv := "others") (sp := spMinT maxQ K) F hm c_largest (fun _ _ _ _ _ _ us rest hl => match us, rest, hl with | [_], [], _ => rfl | [_], _ :: _, _ => rfl) (fun cdv A outer s H vs Q E hr h => ?_) ?himp
  case himp =>
    exact spMin_imp
  · obtain ⟨v0, q0, t, xs, qs, rfl, h0, z0, ht, ha, hz, k⟩ := h
    have nd := c_largest.nd
    refine ⟨_, (pss_cons (ps_set (i := 2) nd rfl (by first | exact Or.inl rfl | exact Or.inr rfl) (pv 0))
      (pss_cons (ps_for PassesOwn.never rfl (pi_tup (pv 1)) (pg_name (i := 3) nd rfl (by first | exact Or.inl rfl | exact Or.inr rfl))
        (pss_one (ps_if (pt_cmpR op_gt (pe_fn Fcompare (hr.mono (by decide)) (pa_cons (pv 3) (pa_cons (pv 2) pa_nil))) pe_int (nomark _))
          (pss_one (ps_set (i := 2) nd rfl (by first | exact Or.inl rfl | exact Or.inr rfl) (pv 3)))
          pss_nil)))
      (pss_one (ps_ret (pv 2))))), ?_⟩
    show (_ : TS) _ [some _, some _, none, none] _
    try dsimp only [cxOf, Cx.nox]
    walk_at "go"
    refine r_forT rfl ht (fun i σ H1 => H1 = H ∧ ∃ fv u, σ = [some v0, some (.ref t), some fv, u] ∧ Am K H fv (maxQ q0 (qs.take i))) ⟨rfl, _, _, rfl, h0⟩ (fun i σ H1 _ h => h.1 ▸ ht) ?_ ?_
    · rintro i x σ H1 hx ⟨rfl, fv, u, rfl, hf⟩
      obtain ⟨q, hq, hxq⟩ := ha.at_ hx
      have sf : Sz 4000 (maxQ q0 (qs.take i)) := maxQ_mem z0 fun y hy => hz y (List.mem_of_mem_take hy)
      walk_at "go"
      refine ⟨_, _, q, _, rfl, hxq, hf, hz q (List.mem_of_getElem? hq), sf, ?_⟩
      walk_at "go"
      refine r_dec (fun hlt => ?_) (fun hge => ?_)
      · walk_at "go"
        refine ⟨rfl, _, _, rfl, ?_⟩
        unfold maxQ
        rw [fold_take hq]
        show Am K H1 x (if maxQ q0 (qs.take i) < q then q else maxQ q0 (qs.take i))
        rw [if_pos ((cmp_gt _ _).mp hlt)]
        exact hxq
      · walk_at "go"
        refine ⟨rfl, _, _, rfl, ?_⟩
        unfold maxQ
        rw [fold_take hq]
        show Am K H1 fv (if maxQ q0 (qs.take i) < q then q else maxQ q0 (qs.take i))
        rw [if_neg fun z => hge ((cmp_gt _ _).mpr z)]
        exact hf
    · rintro σ H1 ⟨rfl, fv, u, rfl, hf⟩
      walk_at "go"
      rw [ha.1, List.take_length] at hf
      exact k _ _ Ext.refl hf
def spPair (K : PySem.W.Frag) : Sp := fun vs H Q _ => ∃ a b : Nat, vs = [.int (a : Int), .int (b : Int)] ∧ 0 < b ∧ a < 2 ^ 8900 ∧ b < 2 ^ 8900 ∧ RetAm K H Q (mkRat (a : Int) b)
abbrev s_law_pair : Stmt := top 29
theorem c_law_pair : FnScope ["_law_a", "_law_b", "_law_x", "_law_y"] ["_law_a", "_law_b"] (defScope s_law_pair) := ⟨rfl, rfl, rfl, by decide +kernel, rfl, by decide +kernel, by decide +kernel⟩
theorem f_law_pair (F : FunD K "_law_pair" "_law_pair" (defArgs s_law_pair) (defBody s_law_pair) (defScope s_law_pair) [] [] f fd) (hm : mg "_law_pair" = some (.ref f)) (T : Bt mg) : Fn P w K mg base 1 "_law_pair" (spPair K) := by
  refine fn_def F hm c_law_pair (fun vs H Q E h => ?_) (fun _ _ _ _ _ _ us hl => match us, hl with | [_, _], _ => rfl) (fun cdv A outer s H vs Q E hr h => ?_)
  · obtain ⟨a, b, rfl, _⟩ := h
    rfl
  · obtain ⟨a, b, rfl, hb, la, lb, k⟩ := h
    have nd := c_law_pair.nd
    refine ⟨_, (pss_cons (ps_par (i := 2) (j := 3) (by rfl) nd rfl rfl (by decide) rfl rfl (pa_cons (pv 0) (pa_cons (pv 1) pa_nil)) (by rfl))
      (pss_cons (ps_while PassesOwn.never (pt_cmpR op_gt (pv 3) pe_int (nomark _))
        (pss_one (ps_par (i := 2) (j := 3) (by rfl) nd rfl rfl (by decide) rfl rfl (pa_cons (pv 3) (pa_cons (pe_op op_mod (pe_callTy call_int1 (by rfl) T.int (by decide +kernel) (pa_cons (pv 2) pa_nil)) (pv 3)) pa_nil)) (by rfl))))
      (pss_one (ps_ret (pe_tup (pa_cons (pe_op op_fdivW (pv 0) (pv 2)) (pa_cons (pe_op op_fdivW (pv 1) (pv 2)) pa_nil))))))), ?_⟩
    show (_ : TS) _ [some _, some _, none, none] _
    try dsimp only [cxOf, Cx.nox]
    walk_at "go"
    refine r_while (fun m σ H1 => H1 = H ∧ ∃ x y : Nat, y = m ∧ 0 < x + y ∧ σ = [some (.int (a : Int)), some (.int (b : Int)), some (.int (x : Int)), some (.int (y : Int))] ∧ Nat.gcd x y = Nat.gcd a b) b ⟨rfl, a, b, rfl, by omega, rfl, rfl⟩ ?_
    rintro m σ H1 ⟨rfl, x, y, rfl, hxy, rfl, hg⟩
    walk_at "go"
    refine r_dec (fun hy => ?_) (fun hy => ?_)
    · have hy' : 0 < y := by omega
      refine ⟨fun σ H' => H' = H1 ∧ σ = [some (.int (a : Int)), some (.int (b : Int)), some (.int (y : Int)), some (.int ((x % y : Nat) : Int))], ?_, ?_⟩
      · rintro σ' H' ⟨rfl, rfl⟩
        refine ⟨x % y, Nat.mod_lt _ hy', rfl, y, x % y, rfl, by omega, rfl, ?_⟩
        rw [← hg, Nat.gcd_comm x y, Nat.gcd_rec y x, Nat.gcd_comm]
      · walk_at "go"
        exact ⟨rfl, rfl⟩
    · have y0 : y = 0 := by omega
      subst y0
      rw [Nat.gcd_zero_right] at hg
      have hx : 0 < x := by omega
      have lx : x < 2 ^ 8900 := Nat.lt_of_le_of_lt (by rw [hg]; exact Nat.gcd_le_right _ hb) lb
      have d1 : ∀ i : Int, CDivW i (x : Int) := fun i => cdiv hx lx (by decide) (by decide)
      walk_at "go"
      refine r_I (d1 _) ?_
      walk_at "go"
      refine r_I (d1 _) ?_
      walk_at "go"
      refine k _ _ (Ext.refl.new (by assumption)) ⟨_, rfl, ?_⟩
      obtain ⟨x1, x2⟩ := mk_parts a b hb
      rw [x1, x2, ← hg]
      simp only [Int.natCast_ediv]
      exact tupS
end
end Yk

set_option maxHeartbeats 1000000
namespace Yk
open PySem PySem.Spec PyProof.Rows L2

section
variable {P : Program} {w : World} {K : PySem.W.Frag} {mg : Str → Option Value} {base : Heap} {f : Addr} {fd : FuncData}
theorem szd {n : Nat} {q : Rat} (h : Sz n q) : (q.den : Int).natAbs < 2 ^ n := h.2
theorem mulz {m n : Nat} {i j : Int} (hi : i.natAbs < 2 ^ m) (hj : j.natAbs < 2 ^ n) : (i * j).natAbs < 2 ^ (m + n) := wide_lt hi hj
/-- amounts are not below nought: their first numbers are natural -/
theorem num_nat {q : Rat} (h : 0 ≤ q) : q.num = ((q.num.toNat : Nat) : Int) := (Int.toNat_of_nonneg (num_nn h)).symm
theorem pos_num {q : Rat} (h : 0 < q) : 0 < q.num.toNat := by have := num_pos' h; omega
theorem mk_add (p q : Rat) : mkRat (p.num * q.den + q.num * p.den) (p.den * q.den) = p + q := by rw [Rat.add_def, Rat.normalize_eq_mkRat]
theorem mk_mul (p q : Rat) : mkRat (p.num * q.num) (p.den * q.den) = p * q := by rw [Rat.mul_def, Rat.normalize_eq_mkRat]
def spMore (K : PySem.W.Frag) : Sp := fun vs H Q _ => ∃ v1 v2 p q, vs = [v1, v2] ∧ Am K H v1 p ∧ Am K H v2 q ∧ Sz 4000 p ∧ Sz 4000 q ∧ Q (.bl (decide (q < p))) H
abbrev s_law_more : Stmt := top 30
theorem c_law_more : FnScope ["_law_p", "_law_q"] ["_law_p", "_law_q"] (defScope s_law_more) := ⟨rfl, rfl, rfl, by decide +kernel, rfl, by decide +kernel, by decide +kernel⟩
theorem f_law_more (F : FunD K "_law_more" "_law_more" (defArgs s_law_more) (defBody s_law_more) (defScope s_law_more) [] [] f fd) (hm : mg "_law_more" = some (.ref f))  : Fn P w K mg base 1 "_law_more" (spMore K) := by
  refine fn_def F hm c_law_more (fun vs H Q E h => ?_) (fun _ _ _ _ _ _ us hl => match us, hl with | [_, _], _ => rfl) (fun cdv A outer s H vs Q E hr h => ?_)
  · obtain ⟨v1, v2, p, q, rfl, _⟩ := h
    rfl
  · obtain ⟨v1, v2, p, q, rfl, ⟨a1, rfl, h1⟩, ⟨a2, rfl, h2⟩, z1, z2, k⟩ := h
    have nd := c_law_more.nd
    refine ⟨_, (pss_one (ps_ret (pe_cmpR op_gt (pe_op op_mulW (pe_ix ix_tup (pv 0) pe_int (fun _ _ => rfl)) (pe_ix ix_tup (pv 1) pe_int (fun _ _ => rfl))) (pe_op op_mulW (pe_ix ix_tup (pv 1) pe_int (fun _ _ => rfl)) (pe_ix ix_tup (pv 0) pe_int (fun _ _ => rfl))) (nomark _)))), ?_⟩
    show (_ : TS) _ [some _, some _] _
    try dsimp only [cxOf, Cx.nox]
    have m1 : CMulW p.num (q.den : Int) := cmul z1.1 (szd z2) (by decide) (by decide) (by decide)
    have m2 : CMulW q.num (p.den : Int) := cmul z2.1 (szd z1) (by decide) (by decide) (by decide)
    walk_at "go"
    have e : decide (q.num * (p.den : Int) < p.num * (q.den : Int)) = decide (q < p) := decide_eq_decide.mpr (Rat.lt_iff q p).symm
    rw [e]
    exact k
/-- two amounts, of at most 2000 bits, to one -/
def sp2 (ok : Rat → Rat → Prop) (F : Rat → Rat → Rat) (K : PySem.W.Frag) : Sp := fun vs H Q _ => ∃ v1 v2 p q, vs = [v1, v2] ∧ Am K H v1 p ∧ Am K H v2 q ∧ Sz 4000 p ∧ Sz 4000 q ∧ 0 ≤ p ∧ 0 ≤ q ∧ ok p q ∧ RetAm K H Q (F p q)
abbrev s_law_add : Stmt := top 31
theorem c_law_add : FnScope ["_law_p", "_law_q"] ["_law_p", "_law_q"] (defScope s_law_add) := ⟨rfl, rfl, rfl, by decide +kernel, rfl, by decide +kernel, by decide +kernel⟩
theorem f_law_add (F : FunD K "_law_add" "_law_add" (defArgs s_law_add) (defBody s_law_add) (defScope s_law_add) [] [] f fd) (hm : mg "_law_add" = some (.ref f)) (F_law_pair : Fn P w K mg base 1 "_law_pair" (spPair K)) : Fn P w K mg base 2 "_law_add" (sp2 (fun _ _ => True) (· + ·) K) := by
  refine fn_def F hm c_law_add (fun vs H Q E h => ?_) (fun _ _ _ _ _ _ us hl => match us, hl with | [_, _], _ => rfl) (fun cdv A outer s H vs Q E hr h => ?_)
  · obtain ⟨v1, v2, p, q, rfl, _⟩ := h
    rfl
  · obtain ⟨v1, v2, p, q, rfl, ⟨a1, rfl, h1⟩, ⟨a2, rfl, h2⟩, z1, z2, p0, q0, _, k⟩ := h
    have nd := c_law_add.nd
    refine ⟨_, (pss_one (ps_ret (pe_fn F_law_pair (hr.mono (by decide)) (pa_cons (pe_op op_add (pe_op op_mulW (pe_ix ix_tup (pv 0) pe_int (fun _ _ => rfl)) (pe_ix ix_tup (pv 1) pe_int (fun _ _ => rfl))) (pe_op op_mulW (pe_ix ix_tup (pv 1) pe_int (fun _ _ => rfl)) (pe_ix ix_tup (pv 0) pe_int (fun _ _ => rfl)))) (pa_cons (pe_op op_mulW (pe_ix ix_tup (pv 0) pe_int (fun _ _ => rfl)) (pe_ix ix_tup (pv 1) pe_int (fun _ _ => rfl))) pa_nil))))), ?_⟩
    show (_ : TS) _ [some _, some _] _
    try dsimp only [cxOf, Cx.nox]
    have m1 : CMulW p.num (q.den : Int) := cmul z1.1 (szd z2) (by decide) (by decide) (by decide)
    have m2 : CMulW q.num (p.den : Int) := cmul z2.1 (szd z1) (by decide) (by decide) (by decide)
    have m3 : CMulW (p.den : Int) (q.den : Int) := cmul (szd z1) (szd z2) (by decide) (by decide) (by decide)
    walk_at "go"
    have e1 := mulz z1.1 (szd z2)
    have e2 := mulz z2.1 (szd z1)
    have e3 : p.den * q.den < 2 ^ (4000 + 4000) := by rw [Nat.pow_add]; exact Nat.mul_lt_mul'' z1.2 z2.2
    have e4 : (2 : Nat) ^ (4000 + 4000) + 2 ^ (4000 + 4000) ≤ 2 ^ 8900 := by decide +kernel
    have n1 : 0 ≤ p.num * (q.den : Int) := Int.mul_nonneg (num_nn p0) (by omega)
    have n2 : 0 ≤ q.num * (p.den : Int) := Int.mul_nonneg (num_nn q0) (by omega)
    refine ⟨(p.num * (q.den : Int) + q.num * (p.den : Int)).toNat, p.den * q.den, ?_, Nat.mul_pos p.den_pos q.den_pos, ?_, by omega, fun v H' e a => k v H' e ?_⟩
    · rw [Int.toNat_of_nonneg (by omega), Int.natCast_mul]
    · generalize (2 : Nat) ^ (4000 + 4000) = B at *
      generalize (2 : Nat) ^ 8900 = C at *
      omega
    · rw [Int.toNat_of_nonneg (by omega), mk_add] at a
      exact a
abbrev s_law_mul : Stmt := top 32
theorem c_law_mul : FnScope ["_law_p", "_law_q"] ["_law_p", "_law_q"] (defScope s_law_mul) := ⟨rfl, rfl, rfl, by decide +kernel, rfl, by decide +kernel, by decide +kernel⟩
theorem f_law_mul (F : FunD K "_law_mul" "_law_mul" (defArgs s_law_mul) (defBody s_law_mul) (defScope s_law_mul) [] [] f fd) (hm : mg "_law_mul" = some (.ref f)) (F_law_pair : Fn P w K mg base 1 "_law_pair" (spPair K)) : Fn P w K mg base 2 "_law_mul" (sp2 (fun _ _ => True) (· * ·) K) := by
  refine fn_def F hm c_law_mul (fun vs H Q E h => ?_) (fun _ _ _ _ _ _ us hl => match us, hl with | [_, _], _ => rfl) (fun cdv A outer s H vs Q E hr h => ?_)
  · obtain ⟨v1, v2, p, q, rfl, _⟩ := h
    rfl
  · obtain ⟨v1, v2, p, q, rfl, ⟨a1, rfl, h1⟩, ⟨a2, rfl, h2⟩, z1, z2, p0, q0, _, k⟩ := h
    have nd := c_law_mul.nd
    refine ⟨_, (pss_one (ps_ret (pe_fn F_law_pair (hr.mono (by decide)) (pa_cons (pe_op op_mulW (pe_ix ix_tup (pv 0) pe_int (fun _ _ => rfl)) (pe_ix ix_tup (pv 1) pe_int (fun _ _ => rfl))) (pa_cons (pe_op op_mulW (pe_ix ix_tup (pv 0) pe_int (fun _ _ => rfl)) (pe_ix ix_tup (pv 1) pe_int (fun _ _ => rfl))) pa_nil))))), ?_⟩
    show (_ : TS) _ [some _, some _] _
    try dsimp only [cxOf, Cx.nox]
    have m1 : CMulW p.num q.num := cmul z1.1 z2.1 (by decide) (by decide) (by decide)
    have m3 : CMulW (p.den : Int) (q.den : Int) := cmul (szd z1) (szd z2) (by decide) (by decide) (by decide)
    walk_at "go"
    have e1 := mulz z1.1 z2.1
    have e3 : p.den * q.den < 2 ^ (4000 + 4000) := by rw [Nat.pow_add]; exact Nat.mul_lt_mul'' z1.2 z2.2
    have e4 : (2 : Nat) ^ (4000 + 4000) ≤ 2 ^ 8900 := by decide +kernel
    have n1 : 0 ≤ p.num * q.num := Int.mul_nonneg (num_nn p0) (num_nn q0)
    refine ⟨(p.num * q.num).toNat, p.den * q.den, ?_, Nat.mul_pos p.den_pos q.den_pos, ?_, by omega, fun v H' e a => k v H' e ?_⟩
    · rw [Int.toNat_of_nonneg (by omega), Int.natCast_mul]
    · generalize (2 : Nat) ^ (4000 + 4000) = B at *
      generalize (2 : Nat) ^ 8900 = C at *
      omega
    · rw [Int.toNat_of_nonneg (by omega), mk_mul] at a
      exact a
theorem mk_quot {p q : Rat} (hq : 0 < q) : mkRat (p.num * q.den) (p.den * q.num.toNat) = p / q := by
  obtain ⟨i1, i2⟩ := inv_parts hq
  have e : q⁻¹.den = q.num.toNat := by omega
  rw [Rat.div_def, ← mk_mul, i1, e]
abbrev s_law_div : Stmt := top 33
theorem c_law_div : FnScope ["_law_p", "_law_q"] ["_law_p", "_law_q"] (defScope s_law_div) := ⟨rfl, rfl, rfl, by decide +kernel, rfl, by decide +kernel, by decide +kernel⟩
theorem f_law_div (F : FunD K "_law_div" "_law_div" (defArgs s_law_div) (defBody s_law_div) (defScope s_law_div) [] [] f fd) (hm : mg "_law_div" = some (.ref f)) (F_law_pair : Fn P w K mg base 1 "_law_pair" (spPair K)) : Fn P w K mg base 2 "_law_div" (sp2 (fun _ q => 0 < q) (· / ·) K) := by
  refine fn_def F hm c_law_div (fun vs H Q E h => ?_) (fun _ _ _ _ _ _ us hl => match us, hl with | [_, _], _ => rfl) (fun cdv A outer s H vs Q E hr h => ?_)
  · obtain ⟨v1, v2, p, q, rfl, _⟩ := h
    rfl
  · obtain ⟨v1, v2, p, q, rfl, ⟨a1, rfl, h1⟩, ⟨a2, rfl, h2⟩, z1, z2, p0, q0, hq, k⟩ := h
    have nd := c_law_div.nd
    refine ⟨_, (pss_one (ps_ret (pe_fn F_law_pair (hr.mono (by decide)) (pa_cons (pe_op op_mulW (pe_ix ix_tup (pv 0) pe_int (fun _ _ => rfl)) (pe_ix ix_tup (pv 1) pe_int (fun _ _ => rfl))) (pa_cons (pe_op op_mulW (pe_ix ix_tup (pv 0) pe_int (fun _ _ => rfl)) (pe_ix ix_tup (pv 1) pe_int (fun _ _ => rfl))) pa_nil))))), ?_⟩
    show (_ : TS) _ [some _, some _] _
    try dsimp only [cxOf, Cx.nox]
    have m1 : CMulW p.num (q.den : Int) := cmul z1.1 (szd z2) (by decide) (by decide) (by decide)
    have m3 : CMulW (p.den : Int) q.num := cmul (szd z1) z2.1 (by decide) (by decide) (by decide)
    walk_at "go"
    have e1 := mulz z1.1 (szd z2)
    have l2 : q.num.toNat < 2 ^ 4000 := by have := z2.1; have := num_nn q0; generalize (2 : Nat) ^ 4000 = B at *; omega
    have e3 : p.den * q.num.toNat < 2 ^ (4000 + 4000) := by rw [Nat.pow_add]; exact Nat.mul_lt_mul'' z1.2 l2
    have e4 : (2 : Nat) ^ (4000 + 4000) ≤ 2 ^ 8900 := by decide +kernel
    have n1 : 0 ≤ p.num * (q.den : Int) := Int.mul_nonneg (num_nn p0) (by omega)
    refine ⟨(p.num * (q.den : Int)).toNat, p.den * q.num.toNat, ?_, Nat.mul_pos p.den_pos (pos_num hq), ?_, by omega, fun v H' e a => k v H' e ?_⟩
    · rw [Int.toNat_of_nonneg (by omega), Int.natCast_mul, ← num_nat q0]
    · generalize (2 : Nat) ^ (4000 + 4000) = B at *
      generalize (2 : Nat) ^ 8900 = C at *
      omega
    · rw [Int.toNat_of_nonneg (by omega), mk_quot hq] at a
      exact a
end
end Yk

set_option maxHeartbeats 1000000
namespace Yk
open PySem PySem.Spec PyProof.Rows L2

section
variable {P : Program} {w : World} {K : PySem.W.Frag} {mg : Str → Option Value} {base : Heap} {f : Addr} {fd : FuncData}
def lmin (p q : Rat) : Rat := if q < p then q else p
def lmax (p q : Rat) : Rat := if q < p then p else q
abbrev s_law_min : Stmt := top 34
theorem c_law_min : FnScope ["_law_p", "_law_q"] ["_law_p", "_law_q"] (defScope s_law_min) := ⟨rfl, rfl, rfl, by decide +kernel, rfl, by decide +kernel, by decide +kernel⟩
theorem f_law_min (F : FunD K "_law_min" "_law_min" (defArgs s_law_min) (defBody s_law_min) (defScope s_law_min) [] [] f fd) (hm : mg "_law_min" = some (.ref f)) (F_law_more : Fn P w K mg base 1 "_law_more" (spMore K)) : Fn P w K mg base 2 "_law_min" (sp2 (fun _ _ => True) lmin K) := by
  refine fn_def F hm c_law_min (fun vs H Q E h => ?_) (fun _ _ _ _ _ _ us hl => match us, hl with | [_, _], _ => rfl) (fun cdv A outer s H vs Q E hr h => ?_)
  · obtain ⟨v1, v2, p, q, rfl, _⟩ := h
    rfl
  · obtain ⟨v1, v2, p, q, rfl, h1, h2, z1, z2, p0, q0, _, k⟩ := h
    have nd := c_law_min.nd
    refine ⟨_, (pss_one (ps_ret (pe_ifExp (pt_val (pe_fn F_law_more (hr.mono (by decide)) (pa_cons (pv 0) (pa_cons (pv 1) pa_nil)))) (pv 1) (pv 0)))), ?_⟩
    show (_ : TS) _ [some _, some _] _
    try dsimp only [cxOf, Cx.nox]
    walk_at "go"
    refine ⟨_, _, p, q, rfl, h1, h2, z1, z2, ?_⟩
    refine r_bl ?_
    refine r_dec (fun hl => ?_) (fun hl => ?_)
    · walk_at "go"
      refine k _ _ Ext.refl ?_
      unfold lmin
      rw [if_pos hl]
      exact h2
    · walk_at "go"
      refine k _ _ Ext.refl ?_
      unfold lmin
      rw [if_neg hl]
      exact h1
abbrev s_law_max : Stmt := top 35
theorem c_law_max : FnScope ["_law_p", "_law_q"] ["_law_p", "_law_q"] (defScope s_law_max) := ⟨rfl, rfl, rfl, by decide +kernel, rfl, by decide +kernel, by decide +kernel⟩
theorem f_law_max (F : FunD K "_law_max" "_law_max" (defArgs s_law_max) (defBody s_law_max) (defScope s_law_max) [] [] f fd) (hm : mg "_law_max" = some (.ref f)) (F_law_more : Fn P w K mg base 1 "_law_more" (spMore K)) : Fn P w K mg base 2 "_law_max" (sp2 (fun _ _ => True) lmax K) := by
  refine fn_def F hm c_law_max (fun vs H Q E h => ?_) (fun _ _ _ _ _ _ us hl => match us, hl with | [_, _], _ => rfl) (fun cdv A outer s H vs Q E hr h => ?_)
  · obtain ⟨v1, v2, p, q, rfl, _⟩ := h
    rfl
  · obtain ⟨v1, v2, p, q, rfl, h1, h2, z1, z2, p0, q0, _, k⟩ := h
    have nd := c_law_max.nd
    refine ⟨_, (pss_one (ps_ret (pe_ifExp (pt_val (pe_fn F_law_more (hr.mono (by decide)) (pa_cons (pv 0) (pa_cons (pv 1) pa_nil)))) (pv 0) (pv 1)))), ?_⟩
    show (_ : TS) _ [some _, some _] _
    try dsimp only [cxOf, Cx.nox]
    walk_at "go"
    refine ⟨_, _, p, q, rfl, h1, h2, z1, z2, ?_⟩
    refine r_bl ?_
    refine r_dec (fun hl => ?_) (fun hl => ?_)
    · walk_at "go"
      refine k _ _ Ext.refl ?_
      unfold lmax
      rw [if_pos hl]
      exact h1
    · walk_at "go"
      refine k _ _ Ext.refl ?_
      unfold lmax
      rw [if_neg hl]
      exact h2
def spOrder (K : PySem.W.Frag) : Sp := fun vs H Q _ => ∃ v1 v2 p q, vs = [v1, v2] ∧ Am K H v1 p ∧ Am K H v2 q ∧ Sz 4000 p ∧ Sz 4000 q ∧ Q (.int (cmpQ p q)) H
abbrev s_law_order : Stmt := top 45
theorem c_law_order : FnScope ["_law_p", "_law_q"] ["_law_p", "_law_q"] (defScope s_law_order) := ⟨rfl, rfl, rfl, by decide +kernel, rfl, by decide +kernel, by decide +kernel⟩
theorem f_law_order (F : FunD K "_law_order" "_law_order" (defArgs s_law_order) (defBody s_law_order) (defScope s_law_order) [] [] f fd) (hm : mg "_law_order" = some (.ref f)) (F_law_more : Fn P w K mg base 1 "_law_more" (spMore K)) : Fn P w K mg base 2 "_law_order" (spOrder K) := by
  refine fn_def F hm c_law_order (fun vs H Q E h => ?_) (fun _ _ _ _ _ _ us hl => match us, hl with | [_, _], _ => rfl) (fun cdv A outer s H vs Q E hr h => ?_)
  · obtain ⟨v1, v2, p, q, rfl, _⟩ := h
    rfl
  · obtain ⟨v1, v2, p, q, rfl, h1, h2, z1, z2, k⟩ := h
    have nd := c_law_order.nd
    refine ⟨_, (pss_one (ps_ret (pe_ifExp (pt_val (pe_fn F_law_more (hr.mono (by decide)) (pa_cons (pv 0) (pa_cons (pv 1) pa_nil)))) pe_int (pe_ifExp (pt_val (pe_fn F_law_more (hr.mono (by decide)) (pa_cons (pv 1) (pa_cons (pv 0) pa_nil)))) (pe_un un_neg pe_int) pe_int)))), ?_⟩
    show (_ : TS) _ [some _, some _] _
    try dsimp only [cxOf, Cx.nox]
    walk_at "go"
    refine ⟨_, _, p, q, rfl, h1, h2, z1, z2, ?_⟩
    refine r_bl ?_
    unfold cmpQ at k
    refine r_dec (fun hl => ?_) (fun hl => ?_)
    · walk_at "go"
      rw [if_neg fun z => Rat.not_le.mpr z (Rat.le_of_lt hl), if_pos hl] at k
      exact k
    · walk_at "go"
      refine ⟨_, _, q, p, rfl, h2, h1, z2, z1, ?_⟩
      refine r_bl ?_
      refine r_dec (fun hp => ?_) (fun hp => ?_)
      · walk_at "go"
        rw [if_pos hp] at k
        exact k
      · walk_at "go"
        rw [if_neg hp, if_neg hl] at k
        exact k
theorem sumQ_nn : ∀ {qs : List Rat} {z : Rat}, 0 ≤ z → (∀ q ∈ qs, 0 ≤ q) → 0 ≤ qs.foldl (· + ·) z
  | [], z, h, _ => h
  | q :: r, z, h, hq => sumQ_nn (qs := r) (z := z + q) (Rat.add_nonneg h (hq q List.mem_cons_self)) fun x hx => hq x (List.mem_cons_of_mem _ hx)
def spSum (K : PySem.W.Frag) : Sp := fun vs H Q _ => ∃ t xs qs m, vs = [V.ref t] ∧ SqL K H t xs ∧ Ams K H xs qs ∧ (∀ q ∈ qs, Sz m q) ∧ (∀ q ∈ qs, 0 ≤ q) ∧ m ≤ 4000 ∧ 1 + qs.length * (m + 1) ≤ 4000 ∧ RetAm K H Q (sumQ qs)
abbrev s_law_sum : Stmt := top 36
theorem c_law_sum : FnScope ["_law_pairs", "_law_done", "_law_p"] ["_law_pairs"] (defScope s_law_sum) := ⟨rfl, rfl, rfl, by decide +kernel, rfl, by decide +kernel, by decide +kernel⟩
theorem f_law_sum (F : FunD K "_law_sum" "_law_sum" (defArgs s_law_sum) (defBody s_law_sum) (defScope s_law_sum) [] [] f fd) (hm : mg "_law_sum" = some (.ref f)) (F_law_add : Fn P w K mg base 2 "_law_add" (sp2 (fun _ _ => True) (· + ·) K)) : Fn P w K mg base 3 "_law_sum" (spSum K) := by
  refine fn_def F hm c_law_sum (fun vs H Q E h => ?_) (fun _ _ _ _ _ _ us hl => match us, hl with | [_], _ => rfl) (fun cdv A outer s H vs Q E hr h => ?_)
  · obtain ⟨t, xs, qs, m, rfl, _⟩ := h
    rfl
  · obtain ⟨t, xs, qs, m, rfl, ht, ha, hz, hn, hm, hl, k⟩ := h
    have nd := c_law_sum.nd
    refine ⟨_, (pss_cons (ps_set (i := 1) nd rfl (by first | exact Or.inl rfl | exact Or.inr rfl) (pe_tup (pa_cons pe_int (pa_cons pe_int pa_nil))))
      (pss_cons (ps_for PassesOwn.never rfl (pi_list (pv 0)) (pg_name (i := 2) nd rfl (by first | exact Or.inl rfl | exact Or.inr rfl))
        (pss_one (ps_set (i := 1) nd rfl (by first | exact Or.inl rfl | exact Or.inr rfl) (pe_fn F_law_add (hr.mono (by decide)) (pa_cons (pv 1) (pa_cons (pv 2) pa_nil))))))
      (pss_one (ps_ret (pv 1))))), ?_⟩
    show (_ : TS) _ [some _, none, none] _
    try dsimp only [cxOf, Cx.nox]
    walk_at "go"
    refine r_forL rfl (by walk_at "sq") (fun i σ H1 => Ext [] H H1 ∧ ∃ fv u, σ = [some (.ref t), some fv, u] ∧ Am K H1 fv (sumQ (qs.take i))) ⟨Ext.refl.new (by assumption), _, _, rfl, ⟨_, rfl, tupS⟩⟩ (fun i σ H1 _ h => lst0 h.1 ht) ?_ ?_
    · rintro i x σ H1 hx ⟨e1, fv, u, rfl, hf⟩
      have hi : i < qs.length := by rw [← ha.1]; exact (List.getElem?_eq_some_iff.mp hx).1
      have hq : qs[i]? = some qs[i] := List.getElem?_eq_getElem hi
      have hb := sumQ_sz i hz (by omega)
      have hsz : 1 + i * (m + 1) ≤ 4000 := Nat.le_trans (by have := Nat.mul_le_mul_right (m + 1) (Nat.le_of_lt hi); omega) hl
      walk_at "go"
      refine ⟨_, _, _, qs[i], rfl, hf, (ha.2 i x _ hx hq).x0 e1, hb.mono hsz, (hz _ (List.getElem_mem hi)).mono hm, sumQ_nn (by decide) (fun q hq => hn q (List.mem_of_mem_take hq)), hn _ (List.getElem_mem hi), trivial, fun v H' e a => ?_⟩
      walk_at "go"
      refine ⟨e1.trans e, _, _, rfl, ?_⟩
      rw [sumQ_take hq]
      exact a
    · rintro σ H1 ⟨e1, fv, u, rfl, hf⟩
      walk_at "go"
      rw [ha.1, List.take_length] at hf
      exact k _ _ e1 hf
end
end Yk

set_option maxHeartbeats 2000000
namespace Yk
open PySem PySem.Spec PyProof.Rows L2

section
variable {P : Program} {w : World} {K : PySem.W.Frag} {mg : Str → Option Value} {base : Heap} {f : Addr} {fd : FuncData}
theorem lst_upd {K : PySem.W.Frag} {H : Hp} {a b : Addr} {o : HO} {xs l : List V} (h : SqL K H a xs) (hb : H b = some (.lst l)) (hd : xs ≠ l) : SqL K (upd H b o) a xs := by
  rcases h with (h | ⟨u, h⟩) | h
  · exact .inl (.inl (by rw [upd_ne (fun z => hd (by rw [z, hb] at h; cases h; rfl))]; exact h))
  · exact .inl (.inr ⟨u, by rw [upd_ne (fun z => by rw [z, hb] at h; cases h)]; exact h⟩)
  · exact .inr h
theorem ns_ne (ns : List Int) (it : Addr) (l : List V) : ns.map V.int ≠ .ref it :: l := by
  cases ns with
  | nil => intro h; cases h
  | cons n r => intro h; cases h
theorem cpow {i : Int} {j : Int} (h0 : 0 ≤ j) (h1 : j ≤ 1000000) (h : i.natAbs < 2 ^ 64) : CPow i j := ⟨h0, h1, h⟩
theorem cdivc (i : Int) : CDivW i 97 := ⟨by decide, by decide +kernel⟩
def spDraw (K : PySem.W.Frag) : Sp := fun vs H Q _ => ∃ (b : Bag) (n : Int), vs = [.ref b.a, .int n] ∧ 0 < n ∧ n < 2 ^ 400 ∧ BagAt K H b ∧ ∀ (x : Int) H', 0 ≤ x → x < n → BagAt K H' b → Ext [b.a] H H' → Q (.int x) H'
theorem at_map {ns : List Int} {i : Nat} (h : i < ns.length) : atI (ns.map V.int) (i : Int) = some (.int ns[i]) := atI_nat (by rw [List.getElem?_map, List.getElem?_eq_getElem h] <;> rfl)
theorem bag_ex {K : PySem.W.Frag} {H : Hp} {b it : Addr} {ns : List Int} {pos : Nat} {rest seed cnt : Int} (hb : H b = some (.lst [.ref it, .int (pos : Int), .int rest, .int seed, .int cnt])) (hi : SqL K H it (ns.map V.int)) (hns : ns.length ≤ 63)
    (hp : pos ≤ ns.length) (hr : 0 ≤ rest) (h0 : 0 ≤ seed) (h1 : seed < 2147483629) : BagAt K H ⟨b, it, ns⟩ := ⟨_, hb, hi, hns, pos, rest, seed, cnt, rfl, hp, hr, h0, h1⟩
theorem modI (a : Int) {n : Int} (h : 0 < n) : 0 ≤ a % n ∧ a % n < n := ⟨Int.emod_nonneg a (by omega), Int.emod_lt_of_pos a h⟩
abbrev s_law_draw : Stmt := top 26
theorem c_law_draw : FnScope ["_law_bag_here", "_law_many", "_law_item", "_law_digit"] ["_law_bag_here", "_law_many"] (defScope s_law_draw) := ⟨rfl, rfl, rfl, by decide +kernel, rfl, by decide +kernel, by decide +kernel⟩
theorem f_law_draw (F : FunD K "_law_draw" "_law_draw" (defArgs s_law_draw) (defBody s_law_draw) (defScope s_law_draw) [] [] f fd) (hm : mg "_law_draw" = some (.ref f)) (T : Bt mg) : Fn P w K mg base 1 "_law_draw" (spDraw K) := by
  refine fn_def F hm c_law_draw (fun vs H Q E h => ?_) (fun _ _ _ _ _ _ us hl => match us, hl with | [_, _], _ => rfl) (fun cdv A outer s H vs Q E hr h => ?_)
  · obtain ⟨b, n, rfl, _⟩ := h
    rfl
  · obtain ⟨⟨b, it, ns⟩, n, rfl, hn, hn2, ⟨l, hb, hi, hns, pos, rest, seed, cnt, rfl, hp, hr0, hs0, hs1⟩, k⟩ := h
    have nd := c_law_draw.nd
    dsimp only at hb hi hns hp k
    refine ⟨_, (pss_cons (ps_asg (pe_op op_add (pe_ix ix_list (pv 0) pe_int (fun _ _ => rfl)) pe_int) (pg_sub (pv 0) pe_int set_list))
      (pss_mid (ps_if (PW.pt (pw_and (pt_cmpR op_eq (pe_ix ix_list (pv 0) pe_int (fun _ _ => rfl)) pe_int (nomark _)) (pw_and1 (pt_cmpR op_lt (pe_ix ix_list (pv 0) pe_int (fun _ _ => rfl)) (pe_callB cr_len (by rfl) T.len (by decide +kernel) (pa_cons (pe_ix ix_list (pv 0) pe_int (fun _ _ => rfl)) pa_nil)) (nomark _)))))
        (pss_cons (ps_set (i := 2) nd rfl (by first | exact Or.inl rfl | exact Or.inr rfl) (pe_ix ix_list (pe_ix ix_list (pv 0) pe_int (fun _ _ => rfl)) (pe_ix ix_list (pv 0) pe_int (fun _ _ => rfl)) (fun _ _ => rfl)))
        (pss_cons (ps_asg (pe_op op_add (pe_ix ix_list (pv 0) pe_int (fun _ _ => rfl)) pe_int) (pg_sub (pv 0) pe_int set_list))
        (pss_one (ps_if (pt_cmpR op_ge (pv 2) (pe_op op_pow pe_int pe_int) (nomark _))
          (pss_one (ps_asg (pv 2) (pg_sub (pv 0) pe_int set_list)))
          (pss_one (ps_asg (pe_op op_mod (pe_callTy call_int1 (by rfl) T.int (by decide +kernel) (pa_cons (pe_op op_add (pe_op op_add (pe_op op_mul (pe_ix ix_list (pv 0) pe_int (fun _ _ => rfl)) pe_int) (pe_op op_mul (pe_op op_mod (pe_callTy call_int1 (by rfl) T.int (by decide +kernel) (pa_cons (pv 2) pa_nil)) pe_int) pe_int)) pe_int) pa_nil)) pe_int) (pg_sub (pv 0) pe_int set_list)))))))
        pss_nil)
      (pss_cons (ps_if (pt_cmpR op_gt (pe_ix ix_list (pv 0) pe_int (fun _ _ => rfl)) pe_int (nomark _))
        (pss_cons (ps_set (i := 3) nd rfl (by first | exact Or.inl rfl | exact Or.inr rfl) (pe_op op_mod (pe_callTy call_int1 (by rfl) T.int (by decide +kernel) (pa_cons (pe_ix ix_list (pv 0) pe_int (fun _ _ => rfl)) pa_nil)) (pv 1)))
        (pss_cons (ps_asg (pe_op op_fdivW (pe_ix ix_list (pv 0) pe_int (fun _ _ => rfl)) (pv 1)) (pg_sub (pv 0) pe_int set_list))
        (pss_one (ps_ret (pv 3)))))
        pss_nil)
      (pss_cons (ps_asg (pe_op op_mod (pe_callTy call_int1 (by rfl) T.int (by decide +kernel) (pa_cons (pe_op op_add (pe_op op_add (pe_op op_pow (pe_ix ix_list (pv 0) pe_int (fun _ _ => rfl)) pe_int) (pe_op op_mul (pe_ix ix_list (pv 0) pe_int (fun _ _ => rfl)) pe_int)) pe_int) pa_nil)) pe_int) (pg_sub (pv 0) pe_int set_list))
      (pss_one (ps_ret (pe_op op_mod (pe_callTy call_int1 (by rfl) T.int (by decide +kernel) (pa_cons (pe_op op_add (pe_op op_fdivW (pe_ix ix_list (pv 0) pe_int (fun _ _ => rfl)) pe_int) (pe_op op_mul (pe_op op_mod (pe_callTy call_int1 (by rfl) T.int (by decide +kernel) (pa_cons (pe_ix ix_list (pv 0) pe_int (fun _ _ => rfl)) pa_nil)) pe_int) pe_int)) pa_nil)) (pv 1)))))))), ?_⟩
    show (_ : TS) _ [some _, some _, none, none] _
    try dsimp only [cxOf, Cx.nox]
    have bb : SqL K H b [.ref it, .int (pos : Int), .int rest, .int seed, .int cnt] := .inl (.inl hb)
    walk_at "go"
    refine r_setB (K := K) hb rfl _ rfl (fun H1 hb1 e1 c1 => ?_)
    have bb1 : SqL K H1 b [.ref it, .int (pos : Int), .int rest, .int seed, .int (cnt + 1)] := .inl (.inl hb1)
    have hi1 := c1 _ _ hi (ns_ne _ _ _)
    refine r_mid (fun σ H2 => ∃ (u : Option V) (pos' : Nat) (rest' seed' : Int), σ = [some (.ref b), some (.int n), u, none] ∧ H2 b = some (.lst [.ref it, .int (pos' : Int), .int rest', .int seed', .int (cnt + 1)]) ∧ SqL K H2 it (ns.map V.int) ∧ Ext [b] H H2 ∧ pos' ≤ ns.length ∧ 0 ≤ rest' ∧ 0 ≤ seed' ∧ seed' < 2147483629) ?_ ?_
    · walk_at "go"
      refine r_dec (fun hrest => ?_) (fun hrest => ?_)
      · walk_at "go"
        refine r_dec (fun hpos => ?_) (fun hpos => ?_)
        · have hpn : pos < ns.length := by rw [List.length_map] at hpos; omega
          walk_at "go"
          refine r_ixL hi1 (at_map hpn) ?_
          walk_at "go"
          refine r_setB (K := K) hb1 rfl _ rfl (fun H2 hb2 e2 c2 => ?_)
          have bb2 : SqL K H2 b [.ref it, .int ((pos : Int) + 1), .int rest, .int seed, .int (cnt + 1)] := .inl (.inl hb2)
          have hi2 := c2 _ _ hi1 (ns_ne _ _ _)
          walk_at "go"
          refine r_dec (fun hge => ?_) (fun hge => ?_)
          · walk_at "go"
            refine r_setB (K := K) hb2 rfl _ rfl (fun H3 hb3 e3 c3 => ?_)
            exact ⟨_, pos + 1, ns[pos], seed, rfl, by rw [Int.natCast_add]; exact hb3, c3 _ _ hi2 (ns_ne _ _ _), (e1.trans e2).trans e3, hpn, Int.le_trans (by decide) hge, hs0, hs1⟩
          · walk_at "go"
            refine r_setB (K := K) hb2 rfl _ rfl (fun H3 hb3 e3 c3 => ?_)
            have hm := modI (seed * 69621 + ns[pos] % 2147483549 * 30103 + 89) (n := 2147483629) (by decide)
            exact ⟨_, pos + 1, rest, _, rfl, by rw [Int.natCast_add]; exact hb3, c3 _ _ hi2 (ns_ne _ _ _), (e1.trans e2).trans e3, hpn, hr0, hm.1, hm.2⟩
        · walk_at "go"
          exact ⟨_, pos, rest, seed, rfl, hb1, hi1, e1, hp, hr0, hs0, hs1⟩
      · walk_at "go"
        exact ⟨_, pos, rest, seed, rfl, hb1, hi1, e1, hp, hr0, hs0, hs1⟩
    · rintro σ H2 ⟨u, pos', rest', seed', rfl, hb2, hi2, e2, hp2, hr2, hs2, hs3⟩
      have bb2 : SqL K H2 b [.ref it, .int (pos' : Int), .int rest', .int seed', .int (cnt + 1)] := .inl (.inl hb2)
      walk_at "go"
      refine r_dec (fun hpos => ?_) (fun hpos => ?_)
      · have d1 : CDivW rest' n := wide_div hn (b := 400) (by omega) (by decide) (by decide)
        walk_at "go"
        refine r_setB (K := K) hb2 rfl _ rfl (fun H3 hb3 e3 c3 => ?_)
        walk_at "go"
        have hm := modI rest' hn
        exact k _ H3 hm.1 hm.2 (bag_ex hb3 (c3 _ _ hi2 (ns_ne _ _ _)) hns hp2 (Int.ediv_nonneg hr2 (by omega)) hs2 hs3) (e2.trans e3)
      · have c4 : CPow seed' 3 := ⟨by decide, by decide, by omega⟩
        walk_at "go"
        refine r_setB (K := K) hb2 rfl _ rfl (fun H3 hb3 e3 c3 => ?_)
        have hm := modI (seed' ^ Int.toNat 3 + (cnt + 1) * 1299709 + 60013) (n := 2147483629) (by decide)
        have bb3 : SqL K H3 b [.ref it, .int (pos' : Int), .int rest', .int ((seed' ^ Int.toNat 3 + (cnt + 1) * 1299709 + 60013) % 2147483629), .int (cnt + 1)] := .inl (.inl hb3)
        walk_at "go"
        have hm2 := modI ((seed' ^ Int.toNat 3 + (cnt + 1) * 1299709 + 60013) % 2147483629 / 97 + (seed' ^ Int.toNat 3 + (cnt + 1) * 1299709 + 60013) % 2147483629 % 7901 * 67) hn
        exact k _ H3 hm2.1 hm2.2 (bag_ex hb3 (c3 _ _ hi2 (ns_ne _ _ _)) hns hp2 hr2 hm.1 hm.2) (e2.trans e3)
end
end Yk

set_option maxHeartbeats 2000000
namespace Yk
open PySem PySem.Spec PyProof.Rows L2

section
variable {P : Program} {w : World} {K : PySem.W.Frag} {mg : Str → Option Value} {base : Heap} {f : Addr} {fd : FuncData}
theorem cut_all {xs : List V} (h : xs.length ≤ 63) : cutV xs none (some 63) = xs := by
  unfold cutV
  rw [show HT.sIx xs.length 0 none = 0 from rfl, show HT.sIx xs.length xs.length (some 63) = min 63 xs.length from HT.sIx_nat _ _ 63, List.drop_zero, Nat.min_eq_right h]
  simp
def spBag (K : PySem.W.Frag) : Sp := fun vs H Q _ => ∃ (a : Addr) (ns : List Int), vs = [.ref a] ∧ SqL K H a (ns.map V.int) ∧ ns.length ≤ 63 ∧ ∀ (b : Bag) H', H b.a = none → Ext [] H H' → BagAt K H' b → Q (.ref b.a) H'
abbrev s_law_bag : Stmt := top 25
theorem c_law_bag : FnScope ["_law_script", "_law_seed", "_law_item"] ["_law_script"] (defScope s_law_bag) := ⟨rfl, rfl, rfl, by decide +kernel, rfl, by decide +kernel, by decide +kernel⟩
theorem f_law_bag (F : FunD K "_law_bag" "_law_bag" (defArgs s_law_bag) (defBody s_law_bag) (defScope s_law_bag) [] [] f fd) (hm : mg "_law_bag" = some (.ref f)) (T : Bt mg) : Fn P w K mg base 1 "_law_bag" (spBag K) := by
  refine fn_def F hm c_law_bag (fun vs H Q E h => ?_) (fun _ _ _ _ _ _ us hl => match us, hl with | [_], _ => rfl) (fun cdv A outer s H vs Q E hr h => ?_)
  · obtain ⟨a, ns, rfl, _⟩ := h
    rfl
  · obtain ⟨a, ns, rfl, ha, hns, k⟩ := h
    have nd := c_law_bag.nd
    refine ⟨_, (pss_cons (ps_set (i := 1) nd rfl (by first | exact Or.inl rfl | exact Or.inr rfl) pe_int)
      (pss_cons (ps_for PassesOwn.never rfl (pi_list (pe_slice sl_list (pv 0) po_none (po_some pe_int))) (pg_name (i := 2) nd rfl (by first | exact Or.inl rfl | exact Or.inr rfl))
        (pss_one (ps_set (i := 1) nd rfl (by first | exact Or.inl rfl | exact Or.inr rfl) (pe_op op_mod (pe_callTy call_int1 (by rfl) T.int (by decide +kernel) (pa_cons (pe_op op_add (pe_op op_add (pe_op op_mul (pv 1) pe_int) (pe_op op_mod (pe_callTy call_int1 (by rfl) T.int (by decide +kernel) (pa_cons (pv 2) pa_nil)) pe_int)) pe_int) pa_nil)) pe_int))))
      (pss_one (ps_ret (pe_lst (pa_cons (pe_callTy cr_list (by rfl) T.list (by decide +kernel) (pa_cons (pe_slice sl_list (pv 0) po_none (po_some pe_int)) pa_nil)) (pa_cons pe_int (pa_cons pe_int (pa_cons (pv 1) (pa_cons pe_int pa_nil)))))))))), ?_⟩
    show (_ : TS) _ [some _, none, none] _
    try dsimp only [cxOf, Cx.nox]
    have hc : cutV (ns.map V.int) none (some 63) = ns.map V.int := cut_all (by rw [List.length_map]; exact hns)
    walk_at "go"
    refine r_for ?_
    refine r_iList ?_
    walk_at "go"
    refine r_slList ha fun p hp => ?_
    rw [hc]
    refine ⟨p, rfl, ⟨_, lstS⟩, r_loopL (xs := ns.map V.int) (fun i σ H1 => H1 = upd H p (.lst (ns.map V.int)) ∧ ∃ seed u, σ = [some (.ref a), some (.int seed), u] ∧ 0 ≤ seed ∧ seed < 2147483629) ⟨rfl, 13965, none, rfl, by decide, by decide⟩ (fun i σ H1 _ h => by rw [h.1]; exact lstS) ?_ ?_⟩
    · rintro i x σ H1 hx ⟨rfl, seed, u, rfl, h0, h1⟩
      obtain ⟨z, rfl⟩ : ∃ z, x = V.int z := by
        rw [List.getElem?_map] at hx
        cases e : ns[i]? with
        | none => rw [e] at hx; cases hx
        | some z => rw [e] at hx; exact ⟨z, (Option.some.inj hx).symm⟩
      walk_at "go"
      have hm := modI (seed * 48271 + z % 2147483587 + 307) (n := 2147483629) (by decide)
      exact ⟨rfl, _, _, rfl, hm.1, hm.2⟩
    · rintro σ H1 ⟨rfl, seed, u, rfl, h0, h1⟩
      walk_at "go"
      refine r_slList (lstN ha hp) fun p2 hp2 => ?_
      rw [hc]
      walk_at "go"
      refine r_list (.inl lstS) fun l hl => ?_
      walk_at "go"
      have x3 := ((Ext.refl (S := []) (H := H)).new hp).new hp2 |>.new (o := .lst (ns.map V.int)) hl
      exact k ⟨_, l, ns⟩ _ (x3.free (by assumption)) (x3.new (by assumption)) (bag_ex (pos := 0) upd_same (lstN lstS (by assumption)) hns (Nat.zero_le _) (Int.le_refl _) h0 h1)
/-- one of a row of things: what is told of all of them is told of it -/
def spOf (K : PySem.W.Frag) : Sp := fun vs H Q _ => ∃ (b : Bag) (l : Addr) (xs : List V), vs = [.ref b.a, .ref l] ∧ BagAt K H b ∧ SqL K H l xs ∧ b.a ≠ l ∧ 0 < xs.length ∧ xs.length ≤ 4000 ∧ ∀ (i : Nat) (x : V) H', xs[i]? = some x → BagAt K H' b → Ext [b.a] H H' → Q x H'
abbrev s_law_of : Stmt := top 27
theorem c_law_of : FnScope ["_law_bag_here", "_law_things"] ["_law_bag_here", "_law_things"] (defScope s_law_of) := ⟨rfl, rfl, rfl, by decide +kernel, rfl, by decide +kernel, by decide +kernel⟩
theorem f_law_of (F : FunD K "_law_of" "_law_of" (defArgs s_law_of) (defBody s_law_of) (defScope s_law_of) [] [] f fd) (hm : mg "_law_of" = some (.ref f)) (T : Bt mg) (F_law_draw : Fn P w K mg base 1 "_law_draw" (spDraw K)) : Fn P w K mg base 2 "_law_of" (spOf K) := by
  refine fn_def F hm c_law_of (fun vs H Q E h => ?_) (fun _ _ _ _ _ _ us hl => match us, hl with | [_, _], _ => rfl) (fun cdv A outer s H vs Q E hr h => ?_)
  · obtain ⟨b, l, xs, rfl, _⟩ := h
    rfl
  · obtain ⟨b, l, xs, rfl, hb, hl, hne, h0, h4, k⟩ := h
    have nd := c_law_of.nd
    refine ⟨_, (pss_one (ps_ret (pe_ix ix_list (pv 1) (pe_fn F_law_draw (hr.mono (by decide)) (pa_cons (pv 0) (pa_cons (pe_callB cr_len (by rfl) T.len (by decide +kernel) (pa_cons (pv 1) pa_nil)) pa_nil))) (fun _ _ => rfl)))), ?_⟩
    show (_ : TS) _ [some _, some _] _
    try dsimp only [cxOf, Cx.nox]
    walk_at "go"
    refine ⟨b, _, rfl, by omega, Int.lt_of_le_of_lt (by omega : (xs.length : Int) ≤ 4000) (by decide), hb, fun x H' x0 x1 hb' e => ?_⟩
    have hl' : SqL K H' l xs := lstX e hl (by simpa using fun z => hne z.symm)
    have hx : x.toNat < xs.length := by omega
    refine r_ixL hl' (v := xs[x.toNat]) ?_ (k x.toNat _ H' (List.getElem?_eq_getElem hx) hb' e)
    have e2 : x = ((x.toNat : Nat) : Int) := by omega
    exact at_of e2 (List.getElem?_eq_getElem hx)
end
end Yk

set_option maxHeartbeats 4000000
namespace Yk
open PySem PySem.Spec PyProof.Rows L2

section
variable {P : Program} {w : World} {K : PySem.W.Frag} {mg : Str → Option Value} {base : Heap} {f : Addr} {fd : FuncData}
theorem of_am {K : PySem.W.Frag} {H : Hp} {b : Bag} {l : Addr} {xs : List V} {qs : List Rat} {Q : VK} {E : XK} (hb : BagAt K H b) (hl : SqL K H l xs) (hne : b.a ≠ l) (ha : Ams K H xs qs) (h0 : 0 < qs.length) (h4 : qs.length ≤ 4000)
    (k : ∀ v q H', q ∈ qs → Am K H' v q → BagAt K H' b → Ext [b.a] H H' → Q v H') : spOf K [.ref b.a, .ref l] H Q E :=
  ⟨b, l, xs, rfl, hb, hl, hne, by rw [ha.1]; exact h0, by rw [ha.1]; exact h4, fun i x H' hx hb' e => by
    obtain ⟨q, hq, hm⟩ := ha.at_ hx
    exact k x q H' (List.mem_of_getElem? hq) (hm.b hb e) hb' e⟩
theorem mulp {i j a b : Int} (i0 : 0 ≤ i) (i1 : i < a) (j0 : 0 ≤ j) (j1 : j < b) (ha : a ≤ 2 ^ 400) (hb : b ≤ 2 ^ 400) : CMulW i j := by
  refine cmul (m := 401) (n := 401) ?_ ?_ (by decide) (by decide) (by decide)
  · have : (2 : Nat) ^ 400 < 2 ^ 401 := by decide
    have : ((2 : Nat) ^ 400 : Int) = 2 ^ 400 := by norm_cast
    omega
  · have : (2 : Nat) ^ 400 < 2 ^ 401 := by decide
    have : ((2 : Nat) ^ 400 : Int) = 2 ^ 400 := by norm_cast
    omega
theorem e10 : (10 : Int) ^ Int.toNat 10 = 10000000000 := by decide
theorem e4 : (10 : Int) ^ Int.toNat 4 = 10000 := by decide
theorem e9 : (10 : Int) ^ Int.toNat 9 = 1000000000 := by decide
def spGreat (K : PySem.W.Frag) : Sp := fun vs H Q _ => ∃ b, vs = [.ref b.a] ∧ BagAt K H b ∧ ∀ (x : Int) H', 0 ≤ x → x < 2 ^ 114 → BagAt K H' b → Ext [b.a] H H' → Q (.int x) H'
abbrev s_law_great : Stmt := top 38
theorem c_law_great : FnScope ["_law_bag_here", "_law_a", "_law_b", "_law_c"] ["_law_bag_here"] (defScope s_law_great) := ⟨rfl, rfl, rfl, by decide +kernel, rfl, by decide +kernel, by decide +kernel⟩
theorem f_law_great (F : FunD K "_law_great" "_law_great" (defArgs s_law_great) (defBody s_law_great) (defScope s_law_great) [] [] f fd) (hm : mg "_law_great" = some (.ref f)) (F_law_draw : Fn P w K mg base 1 "_law_draw" (spDraw K)) (F_law_of : Fn P w K mg base 2 "_law_of" (spOf K)) : Fn P w K mg base 3 "_law_great" (spGreat K) := by
  refine fn_def F hm c_law_great (fun vs H Q E h => ?_) (fun _ _ _ _ _ _ us hl => match us, hl with | [_], _ => rfl) (fun cdv A outer s H vs Q E hr h => ?_)
  · obtain ⟨b, rfl, _⟩ := h
    rfl
  · obtain ⟨b, rfl, hb, k⟩ := h
    have nd := c_law_great.nd
    refine ⟨_, (pss_cons (ps_set (i := 1) nd rfl (by first | exact Or.inl rfl | exact Or.inr rfl) (pe_fn F_law_draw (hr.mono (by decide)) (pa_cons (pv 0) (pa_cons (pe_op op_pow pe_int pe_int) pa_nil))))
      (pss_cons (ps_set (i := 2) nd rfl (by first | exact Or.inl rfl | exact Or.inr rfl) (pe_fn F_law_draw (hr.mono (by decide)) (pa_cons (pv 0) (pa_cons (pe_op op_pow pe_int pe_int) pa_nil))))
      (pss_cons (ps_set (i := 3) nd rfl (by first | exact Or.inl rfl | exact Or.inr rfl) (pe_fn F_law_draw (hr.mono (by decide)) (pa_cons (pv 0) (pa_cons (pe_op op_pow pe_int pe_int) pa_nil))))
      (pss_one (ps_ret (pe_fn F_law_of (hr.mono (by decide)) (pa_cons (pv 0) (pa_cons (pe_lst (pa_cons (pv 1) (pa_cons (pe_op op_add (pe_op op_mul (pv 1) (pe_op op_pow pe_int pe_int)) (pv 2)) (pa_cons (pe_op op_add (pe_op op_mul (pe_op op_add (pe_op op_mul (pv 1) (pe_op op_pow pe_int pe_int)) (pv 2)) (pe_op op_pow pe_int pe_int)) (pv 3)) (pa_cons (pe_op op_add (pe_op op_mul (pe_op op_add (pe_op op_mul (pe_op op_add (pe_op op_mul (pv 1) (pe_op op_pow pe_int pe_int)) (pv 2)) (pe_op op_pow pe_int pe_int)) (pv 3)) (pe_op op_pow pe_int pe_int)) (pe_fn F_law_draw (hr.mono (by decide)) (pa_cons (pv 0) (pa_cons (pe_op op_pow pe_int pe_int) pa_nil)))) pa_nil))))) pa_nil)))))))), ?_⟩
    show (_ : TS) _ [some _, none, none, none] _
    try dsimp only [cxOf, Cx.nox]
    walk_at "go"
    refine ⟨b, _, rfl, by decide, by decide, hb, fun x1 H1 l1 u1 b1 n1 => ?_⟩
    walk_at "go"
    refine ⟨b, _, rfl, by decide, by decide, b1, fun x2 H2 l2 u2 b2 n2 => ?_⟩
    walk_at "go"
    refine ⟨b, _, rfl, by decide, by decide, b2, fun x3 H3 l3 u3 b3 n3 => ?_⟩
    rw [e10] at u1 u2 u3
    walk_at "go"
    refine ⟨b, _, rfl, by decide, by decide, b3, fun x4 H4 l4 u4 b4 n4 => ?_⟩
    rw [e4] at u4
    walk_at "go"
    have e14 := ((n1.trans n2).trans n3).trans n4
    refine ⟨b, _, _, rfl, b4.new (by assumption), lstS, b4.ne (by assumption), Nat.succ_pos _, by simp, fun i x H5 hx b5 e5 => ?_⟩
    have e15 : Ext [b.a] H H5 := (e14.new (by assumption)).trans e5
    match i, hx with
    | 0, hx =>
      cases hx
      exact k _ _ l1 (Int.lt_trans u1 (by decide)) b5 e15
    | 1, hx =>
      cases hx
      rw [e10]
      exact k _ _ (by omega) (Int.lt_trans (by omega : x1 * 10000000000 + x2 < 100000000000000000000) (by decide)) b5 e15
    | 2, hx =>
      cases hx
      rw [e10]
      exact k _ _ (by omega) (Int.lt_trans (by omega : (x1 * 10000000000 + x2) * 10000000000 + x3 < 1000000000000000000000000000000) (by decide)) b5 e15
    | 3, hx =>
      cases hx
      rw [e10, e4]
      exact k _ _ (by omega) (Int.lt_of_lt_of_le (by omega : ((x1 * 10000000000 + x2) * 10000000000 + x3) * 10000 + x4 < 10000000000000000000000000000000000) (by decide)) b5 e15
    | i + 4, hx => cases hx
theorem pair_am {a b : Nat} {m : Nat} (ha : a < 2 ^ m) (hb : 0 < b) (hb2 : b < 2 ^ m) : Sz m (mkRat (a : Int) b) ∧ 0 ≤ mkRat (a : Int) b := ⟨sz_mk hb rfl (by simpa using ha) hb2, mk_nn a b⟩
def spAmt (K : PySem.W.Frag) : Sp := fun vs H Q _ => ∃ b, vs = [.ref b.a] ∧ BagAt K H b ∧ ∀ v q H', Am K H' v q → 0 ≤ q → Sz 114 q → BagAt K H' b → Ext [b.a] H H' → Q v H'
/-- a bit: a whole number of twelfths, at most 12 -/
def spBit (K : PySem.W.Frag) : Sp := fun vs H Q _ => ∃ b, vs = [.ref b.a] ∧ BagAt K H b ∧ ∀ v (n d : Nat) H', n ≤ 12 → 0 < d → d ∣ 12 → Am K H' v (mkRat (n : Int) d) → BagAt K H' b → Ext [b.a] H H' → Q v H'
abbrev s_law_bit : Stmt := top 40
theorem c_law_bit : FnScope ["_law_bag_here"] ["_law_bag_here"] (defScope s_law_bit) := ⟨rfl, rfl, rfl, by decide +kernel, rfl, by decide +kernel, by decide +kernel⟩
theorem f_law_bit (F : FunD K "_law_bit" "_law_bit" (defArgs s_law_bit) (defBody s_law_bit) (defScope s_law_bit) [] [] f fd) (hm : mg "_law_bit" = some (.ref f)) (F_law_draw : Fn P w K mg base 1 "_law_draw" (spDraw K)) (F_law_of : Fn P w K mg base 2 "_law_of" (spOf K)) (F_law_pair : Fn P w K mg base 1 "_law_pair" (spPair K)) : Fn P w K mg base 3 "_law_bit" (spBit K) := by
  refine fn_def F hm c_law_bit (fun vs H Q E h => ?_) (fun _ _ _ _ _ _ us hl => match us, hl with | [_], _ => rfl) (fun cdv A outer s H vs Q E hr h => ?_)
  · obtain ⟨b, rfl, _⟩ := h
    rfl
  · obtain ⟨b, rfl, hb, k⟩ := h
    have nd := c_law_bit.nd
    refine ⟨_, (pss_one (ps_ret (pe_fn F_law_pair (hr.mono (by decide)) (pa_cons (pe_fn F_law_draw (hr.mono (by decide)) (pa_cons (pv 0) (pa_cons pe_int pa_nil))) (pa_cons (pe_fn F_law_of (hr.mono (by decide)) (pa_cons (pv 0) (pa_cons (pe_lst (pa_cons pe_int (pa_cons pe_int (pa_cons pe_int (pa_cons pe_int (pa_cons pe_int (pa_cons pe_int (pa_cons pe_int pa_nil)))))))) pa_nil))) pa_nil))))), ?_⟩
    show (_ : TS) _ [some _] _
    try dsimp only [cxOf, Cx.nox]
    walk_at "go"
    refine ⟨b, _, rfl, by decide, by decide, hb, fun x1 H1 l1 u1 b1 n1 => ?_⟩
    walk_at "go"
    refine ⟨b, _, _, rfl, b1.new (by assumption), lstS, b1.ne (by assumption), by decide, by decide, fun i x H5 hx b5 e5 => ?_⟩
    have e15 : Ext [b.a] H H5 := (n1.new (by assumption)).trans e5
    have hd : ∃ d : Nat, x = .int (d : Int) ∧ 0 < d ∧ d < 2 ^ 114 ∧ d ∣ 12 := by
      match i, hx with
      | 0, hx => cases hx; exact ⟨1, rfl, by decide, by decide, by decide⟩
      | 1, hx => cases hx; exact ⟨1, rfl, by decide, by decide, by decide⟩
      | 2, hx => cases hx; exact ⟨2, rfl, by decide, by decide, by decide⟩
      | 3, hx => cases hx; exact ⟨3, rfl, by decide, by decide, by decide⟩
      | 4, hx => cases hx; exact ⟨1, rfl, by decide, by decide, by decide⟩
      | 5, hx => cases hx; exact ⟨4, rfl, by decide, by decide, by decide⟩
      | 6, hx => cases hx; exact ⟨12, rfl, by decide, by decide, by decide⟩
      | i + 7, hx => cases hx
    obtain ⟨d, rfl, d0, d1, d12⟩ := hd
    have ex : x1 = ((x1.toNat : Nat) : Int) := by omega
    rw [ex]
    have hx1 : x1.toNat < 2 ^ 114 := Nat.lt_of_lt_of_le (by omega : x1.toNat < 13) (by decide)
    refine ⟨x1.toNat, d, rfl, d0, Nat.lt_of_lt_of_le hx1 (Nat.pow_le_pow_right (by decide) (by decide)), Nat.lt_of_lt_of_le d1 (Nat.pow_le_pow_right (by decide) (by decide)), fun v H' e a => ?_⟩
    exact k v x1.toNat d H' (by omega) d0 d12 a (b5.x0 e) (e15.trans e.of0)
theorem spBit_amt {H : Hp} {b : Bag} {Q : VK} {E : XK} (hb : BagAt K H b) (k : ∀ v q H', Am K H' v q → 0 ≤ q → Sz 114 q → BagAt K H' b → Ext [b.a] H H' → Q v H') : spBit K [.ref b.a] H Q E :=
  ⟨b, rfl, hb, fun v n d H' hn d0 hd a b' e => by
    obtain ⟨z1, z2⟩ := pair_am (m := 114) (Nat.lt_of_le_of_lt hn (by decide)) d0 (Nat.lt_of_le_of_lt (Nat.le_of_dvd (by decide) hd) (by decide))
    exact k v _ H' a z2 z1 b' e⟩
theorem sz_lit {n : Int} {d m : Nat} (hd : d ≠ 0) (hc : n.natAbs.Coprime d) (h1 : n.natAbs < 2 ^ m) (h2 : d < 2 ^ m) : Sz m ⟨n, d, hd, hc⟩ := ⟨h1, h2⟩
theorem nn_lit {n : Int} {d : Nat} (hd : d ≠ 0) (hc : n.natAbs.Coprime d) (h : 0 ≤ n) : (0 : Rat) ≤ ⟨n, d, hd, hc⟩ := Rat.num_nonneg.mp h
def nine : List Rat := [⟨0, 1, by decide, by decide⟩, ⟨1, 1, by decide, by decide⟩, ⟨1000, 1, by decide, by decide⟩, ⟨1, 12, by decide, by decide⟩, ⟨999, 1, by decide, by decide⟩, ⟨1001, 1, by decide, by decide⟩, ⟨12001, 12, by decide, by decide⟩, ⟨1, 13, by decide, by decide⟩, ⟨2, 1, by decide, by decide⟩]
theorem nine_all : ∀ q ∈ nine, 0 ≤ q ∧ Sz 114 q := by
  intro q hq
  unfold nine at hq
  simp only [List.mem_cons, List.not_mem_nil, or_false] at hq
  rcases hq with rfl | rfl | rfl | rfl | rfl | rfl | rfl | rfl | rfl <;> exact ⟨nn_lit _ _ (by decide), sz_lit _ _ (by decide) (by decide)⟩
abbrev s_law_amount : Stmt := top 39
theorem c_law_amount : FnScope ["_law_bag_here", "_law_shape"] ["_law_bag_here"] (defScope s_law_amount) := ⟨rfl, rfl, rfl, by decide +kernel, rfl, by decide +kernel, by decide +kernel⟩
theorem f_law_amount (F : FunD K "_law_amount" "_law_amount" (defArgs s_law_amount) (defBody s_law_amount) (defScope s_law_amount) [] [] f fd) (hm : mg "_law_amount" = some (.ref f)) (T : Bt mg) (F_law_draw : Fn P w K mg base 1 "_law_draw" (spDraw K)) (F_law_of : Fn P w K mg base 2 "_law_of" (spOf K)) (F_law_pair : Fn P w K mg base 1 "_law_pair" (spPair K)) (F_law_great : Fn P w K mg base 3 "_law_great" (spGreat K)) : Fn P w K mg base 4 "_law_amount" (spAmt K) := by
  refine fn_def F hm c_law_amount (fun vs H Q E h => ?_) (fun _ _ _ _ _ _ us hl => match us, hl with | [_], _ => rfl) (fun cdv A outer s H vs Q E hr h => ?_)
  · obtain ⟨b, rfl, _⟩ := h
    rfl
  · obtain ⟨b, rfl, hb, k⟩ := h
    have nd := c_law_amount.nd
    refine ⟨_, (pss_cons (ps_set (i := 1) nd rfl (by first | exact Or.inl rfl | exact Or.inr rfl) (pe_fn F_law_draw (hr.mono (by decide)) (pa_cons (pv 0) (pa_cons pe_int pa_nil))))
      (pss_cons (ps_if (pt_cmpR op_eq (pv 1) pe_int (nomark _))
        (pss_one (ps_ret (pe_fn F_law_of (hr.mono (by decide)) (pa_cons (pv 0) (pa_cons (pe_lst (pa_cons (pe_tup (pa_cons pe_int (pa_cons pe_int pa_nil))) (pa_cons (pe_tup (pa_cons pe_int (pa_cons pe_int pa_nil))) (pa_cons (pe_tup (pa_cons pe_int (pa_cons pe_int pa_nil))) (pa_cons (pe_tup (pa_cons pe_int (pa_cons pe_int pa_nil))) (pa_cons (pe_tup (pa_cons pe_int (pa_cons pe_int pa_nil))) (pa_cons (pe_tup (pa_cons pe_int (pa_cons pe_int pa_nil))) (pa_cons (pe_tup (pa_cons pe_int (pa_cons pe_int pa_nil))) (pa_cons (pe_tup (pa_cons pe_int (pa_cons pe_int pa_nil))) (pa_cons (pe_tup (pa_cons pe_int (pa_cons pe_int pa_nil))) pa_nil)))))))))) pa_nil)))))
        pss_nil)
      (pss_cons (ps_if (pt_cmpR op_lt (pv 1) pe_int (nomark _))
        (pss_one (ps_ret (pe_fn F_law_pair (hr.mono (by decide)) (pa_cons (pe_fn F_law_draw (hr.mono (by decide)) (pa_cons (pv 0) (pa_cons pe_int pa_nil))) (pa_cons (pe_op op_add pe_int (pe_fn F_law_draw (hr.mono (by decide)) (pa_cons (pv 0) (pa_cons pe_int pa_nil)))) pa_nil)))))
        pss_nil)
      (pss_cons (ps_if (pt_cmpR op_eq (pv 1) pe_int (nomark _))
        (pss_one (ps_ret (pe_fn F_law_pair (hr.mono (by decide)) (pa_cons (pe_fn F_law_draw (hr.mono (by decide)) (pa_cons (pv 0) (pa_cons (pe_op op_pow pe_int pe_int) pa_nil))) (pa_cons (pe_op op_add pe_int (pe_fn F_law_draw (hr.mono (by decide)) (pa_cons (pv 0) (pa_cons (pe_op op_sub (pe_op op_pow pe_int pe_int) pe_int) pa_nil)))) pa_nil)))))
        pss_nil)
      (pss_cons (ps_if (pt_cmpR op_eq (pv 1) pe_int (nomark _))
        (pss_one (ps_ret (pe_fn F_law_pair (hr.mono (by decide)) (pa_cons (pe_fn F_law_great (hr.mono (by decide)) (pa_cons (pv 0) pa_nil)) (pa_cons (pe_op op_add pe_int (pe_fn F_law_draw (hr.mono (by decide)) (pa_cons (pv 0) (pa_cons pe_int pa_nil)))) pa_nil)))))
        pss_nil)
      (pss_one (ps_ret (pe_fn F_law_pair (hr.mono (by decide)) (pa_cons (pe_fn F_law_great (hr.mono (by decide)) (pa_cons (pv 0) pa_nil)) (pa_cons (pe_callB (call_max2 rfl) (by rfl) T.max (by decide +kernel) (pa_cons pe_int (pa_cons (pe_fn F_law_great (hr.mono (by decide)) (pa_cons (pv 0) pa_nil)) pa_nil))) pa_nil)))))))))), ?_⟩
    show (_ : TS) _ [some _, none] _
    try dsimp only [cxOf, Cx.nox]
    have pk : ∀ (x y : Int) (H' : Hp), 0 ≤ x → x < 2 ^ 114 → 0 < y → y < 2 ^ 114 → BagAt K H' b → Ext [b.a] H H' → spPair K [.int x, .int y] H' Q E0 := fun x y H' x0 x1 y0 y1 b' e' => by
      have ex : x = ((x.toNat : Nat) : Int) := by omega
      have ey : y = ((y.toNat : Nat) : Int) := by omega
      have hx : x.toNat < 2 ^ 114 := by
        have : ((2 ^ 114 : Nat) : Int) = 2 ^ 114 := by norm_cast
        omega
      have hy : y.toNat < 2 ^ 114 := by
        have : ((2 ^ 114 : Nat) : Int) = 2 ^ 114 := by norm_cast
        omega
      rw [ex, ey]
      refine ⟨x.toNat, y.toNat, rfl, by omega, Nat.lt_of_lt_of_le hx (Nat.pow_le_pow_right (by decide) (by decide)), Nat.lt_of_lt_of_le hy (Nat.pow_le_pow_right (by decide) (by decide)), fun v H2 e a => ?_⟩
      obtain ⟨z1, z2⟩ := pair_am hx (by omega) hy
      exact k v _ H2 a z2 z1 (b'.x0 e) (e'.trans e.of0)
    walk_at "go"
    refine ⟨b, _, rfl, by decide, by decide, hb, fun x1 H1 l1 u1 b1 n1 => ?_⟩
    walk_at "go"
    refine r_dec (fun h0 => ?_) (fun h0 => ?_)
    · walk_at "go"
      refine of_am (qs := nine) (by walk_at "bag") lstS (BagAt.ne' (K := K) (by assumption) (by walk_at "bag")) ?_ (by decide) (by decide) fun v q H' hq hm hb' e => ?_
      · unfold nine
        refine Ams.cons (am_lit _ _ (by walk_at "sq")) (Ams.cons (am_lit _ _ (by walk_at "sq")) (Ams.cons (am_lit _ _ (by walk_at "sq")) (Ams.cons (am_lit _ _ (by walk_at "sq")) (Ams.cons (am_lit _ _ (by walk_at "sq")) (Ams.cons (am_lit _ _ (by walk_at "sq")) (Ams.cons (am_lit _ _ (by walk_at "sq")) (Ams.cons (am_lit _ _ (by walk_at "sq")) (Ams.cons (am_lit _ _ (by walk_at "sq")) Ams.nil))))))))
      · refine k v q H' hm (nine_all q hq).1 (nine_all q hq).2 hb' (Ext.trans ?_ e)
        walk_at "ext"
    · walk_at "go"
      refine r_dec (fun h5 => ?_) (fun h5 => ?_)
      · walk_at "go"
        refine ⟨b, _, rfl, by decide, by decide, b1, fun x2 H2 l2 u2 b2 n2 => ?_⟩
        walk_at "go"
        refine ⟨b, _, rfl, by decide, by decide, b2, fun x3 H3 l3 u3 b3 n3 => ?_⟩
        walk_at "go"
        exact pk _ _ _ l2 (Int.lt_trans u2 (by decide)) (by omega) (Int.lt_trans (by omega : 1 + x3 < 14) (by decide)) b3 ((n1.trans n2).trans n3)
      · walk_at "go"
        refine r_dec (fun h5 => ?_) (fun h5 => ?_)
        · walk_at "go"
          refine ⟨b, _, rfl, by decide, by decide, b1, fun x2 H2 l2 u2 b2 n2 => ?_⟩
          walk_at "go"
          refine ⟨b, _, rfl, by decide, by decide, b2, fun x3 H3 l3 u3 b3 n3 => ?_⟩
          walk_at "go"
          rw [e9] at u2 u3
          exact pk _ _ _ l2 (Int.lt_trans u2 (by decide)) (by omega) (Int.lt_trans (by omega : 1 + x3 < 10000000000) (by decide)) b3 ((n1.trans n2).trans n3)
        · walk_at "go"
          refine r_dec (fun h5 => ?_) (fun h5 => ?_)
          · walk_at "go"
            refine ⟨b, rfl, b1, fun x2 H2 l2 u2 b2 n2 => ?_⟩
            walk_at "go"
            refine ⟨b, _, rfl, by decide, by decide, b2, fun x3 H3 l3 u3 b3 n3 => ?_⟩
            walk_at "go"
            exact pk _ _ _ l2 u2 (by omega) (Int.lt_trans (by omega : 1 + x3 < 14) (by decide)) b3 ((n1.trans n2).trans n3)
          · walk_at "go"
            refine ⟨b, rfl, b1, fun x2 H2 l2 u2 b2 n2 => ?_⟩
            walk_at "go"
            refine ⟨b, rfl, b2, fun x3 H3 l3 u3 b3 n3 => ?_⟩
            refine ⟨_, _, rfl, ?_⟩
            walk_at "go"
            exact pk _ _ _ l2 u2 (by split <;> omega) (by split <;> omega) b3 ((n1.trans n2).trans n3)
end
end Yk

set_option maxHeartbeats 4000000
namespace Yk
open PySem PySem.Spec PyProof.Rows L2

section
variable {P : Program} {w : World} {K : PySem.W.Frag} {mg : Str → Option Value} {base : Heap} {f : Addr} {fd : FuncData}
theorem perm_erase : ∀ {xs : List V} {i : Nat} (h : i < xs.length), (xs[i] :: xs.eraseIdx i).Perm xs
  | a :: r, 0, _ => List.Perm.refl _
  | a :: r, i + 1, h => ((List.Perm.swap a _ _)).trans ((perm_erase (xs := r) (i := i) (by simpa using h)).cons a)
/-- a new list with the same things -/
def spMixed (K : PySem.W.Frag) : Sp := fun vs H Q _ => ∃ (b : Bag) (l : Addr) (xs : List V), vs = [.ref b.a, .ref l] ∧ BagAt K H b ∧ SqL K H l xs ∧ b.a ≠ l ∧ xs.length ≤ 4000 ∧ ∀ (p : Addr) (ys : List V) H', ys.Perm xs → H p = none → H' p = some (.lst ys) → BagAt K H' b → Ext [b.a] H H' → Q (.ref p) H'
abbrev s_law_mixed : Stmt := top 41
theorem c_law_mixed : FnScope ["_law_bag_here", "_law_things", "_law_pool", "_law_k"] ["_law_bag_here", "_law_things"] (defScope s_law_mixed) := ⟨rfl, rfl, rfl, by decide +kernel, rfl, by decide +kernel, by decide +kernel⟩
theorem f_law_mixed (F : FunD K "_law_mixed" "_law_mixed" (defArgs s_law_mixed) (defBody s_law_mixed) (defScope s_law_mixed) [] [] f fd) (hm : mg "_law_mixed" = some (.ref f)) (T : Bt mg) (F_law_draw : Fn P w K mg base 1 "_law_draw" (spDraw K)) : Fn P w K mg base 2 "_law_mixed" (spMixed K) := by
  refine fn_def F hm c_law_mixed (fun vs H Q E h => ?_) (fun _ _ _ _ _ _ us hl => match us, hl with | [_, _], _ => rfl) (fun cdv A outer s H vs Q E hr h => ?_)
  · obtain ⟨b, l, xs, rfl, _⟩ := h
    rfl
  · obtain ⟨b, l, xs, rfl, hb, hl, hne, h4, k⟩ := h
    have nd := c_law_mixed.nd
    refine ⟨_, (pss_cons (ps_set (i := 2) nd rfl (by first | exact Or.inl rfl | exact Or.inr rfl) (pe_callTy cr_list (by rfl) T.list (by decide +kernel) (pa_cons (pv 1) pa_nil)))
      (pss_one (ps_ret (pe_lc (own := [("_law_k", 3)]) (g := gName 3) rfl nd (pi_range1 rfl T.range (pa_cons (pe_callB cr_len (by rfl) T.len (by decide +kernel) (pa_cons (pv 2) pa_nil)) pa_nil)) (blkOk_by (N := ["_law_bag_here", "_law_things", "_law_pool", "_law_k"]) (sc := defScope s_law_mixed) (by decide +kernel)) (fun _ _ _ _ _ => pg_name (i := 3) nd rfl (Or.inl rfl)) (fun _ _ _ _ _ => pts_nil) (fun _ _ _ _ _ => (pe_bm PySem.F.plainAttrs_list PySem.F.slot_list_pop PySem.F.type_list_pop mt_popAt (pv 2) (pa_cons (pe_fn F_law_draw (hr.mono (by decide)) (pa_cons (pv 0) (pa_cons (pe_callB cr_len (by rfl) T.len (by decide +kernel) (pa_cons (pv 2) pa_nil) : PE _ _ (tCB (rLn K) _)) pa_nil))) pa_nil) : PE _ _ (tBM K _ _ _ _))))))), ?_⟩
    show (_ : TS) _ [some _, some _, none, none] _
    try dsimp only [cxOf, Cx.nox]
    walk_at "go"
    refine r_list (.inl hl) fun p hp => ?_
    walk_at "go"
    have nbp : p ≠ b.a := fun z => hb.ne hp z.symm
    refine ⟨_, rfl, by omega, by omega, fun D hD => ?_⟩
    have hDp : D ≠ p := fun z => by rw [z, upd_same] at hD; cases hD
    have hD0 : H D = none := by rw [upd_ne hDp] at hD; exact hD
    have nbD : D ≠ b.a := fun z => hb.ne hD0 z.symm
    refine r_lcR (n := xs.length) (fun i H1 => ∃ pool ys : List V, H1 p = some (.lst pool) ∧ H1 D = some (.lst ys) ∧ pool.length + i = xs.length ∧ (ys ++ pool).Perm xs ∧ BagAt K H1 b ∧ Ext [b.a] H H1)
      ⟨xs, [], by rw [upd_ne hDp.symm]; exact upd_same, upd_same, rfl, List.Perm.refl _, (hb.new hp).new hD, (Ext.refl.new hp).new hD⟩ ?_ ?_
    · rintro i H1 hi ⟨pool, ys, hpool, hys, hlen, hperm, hb1, e1⟩
      walk_at "go"
      refine ⟨rfl, ?_⟩
      walk_at "go"
      refine ⟨.inl ⟨rfl, _, .inl (.inl hpool)⟩, ?_⟩
      walk_at "go"
      try refine r_len (.inl (.inl (.inl hpool))) ?_
      walk_at "go"
      refine ⟨b, _, rfl, by omega, Int.lt_of_le_of_lt (by omega : (pool.length : Int) ≤ 4000) (by decide), hb1, fun x H2 x0 x1 hb2 e2 => ?_⟩
      walk_at "go"
      have hx : x.toNat < pool.length := by omega
      have hp2 : H2 p = some (.lst pool) := e2 _ _ hpool (by simpa using nbp)
      have hD2 : H2 D = some (.lst ys) := e2 _ _ hys (by simpa using nbD)
      refine r_popAt hp2 (by omega : x = ((x.toNat : Nat) : Int)) (List.getElem?_eq_getElem hx) (by omega) ?_
      have hl : ys.length ≤ 4000 := by have := hperm.length_eq; simp at this; omega
      refine ⟨ys, by rw [upd_ne hDp]; exact hD2, Nat.lt_of_le_of_lt hl (by decide), pool.eraseIdx x.toNat, ys ++ [pool[x.toNat]], ?_, upd_same, ?_, ?_, ?_, ?_⟩
      · rw [upd_ne hDp.symm]; exact upd_same
      · rw [List.length_eraseIdx_of_lt hx]; omega
      · refine List.Perm.trans ?_ hperm
        rw [List.append_assoc]
        exact (perm_erase hx).append_left ys
      · exact hb.own hD0 (hb.own hp hb2)
      · exact ((e1.trans e2).own hp).own hD0
    · rintro H1 ⟨pool, ys, hpool, hys, hlen, hperm, hb1, e1⟩
      have hz : pool = [] := List.length_eq_zero_iff.mp (by omega)
      subst hz
      rw [List.append_nil] at hperm
      exact k D ys H1 hperm hD0 hys hb1 e1
end
end Yk

set_option maxHeartbeats 4000000
namespace Yk
open PySem PySem.Spec PyProof.Rows L2

section
variable {P : Program} {w : World} {K : PySem.W.Frag} {mg : Str → Option Value} {base : Heap} {f : Addr} {fd : FuncData}
/-- two rows of one length, from three to six -/
theorem row_cases {C : List V → List Rat → Prop} {xs : List V} {qs : List Rat} (hl : xs.length = qs.length) (h3 : 3 ≤ qs.length) (h6 : qs.length ≤ 6)
    (c3 : ∀ v0 v1 v2 q0 q1 q2, C [v0, v1, v2] [q0, q1, q2]) (c4 : ∀ v0 v1 v2 v3 q0 q1 q2 q3, C [v0, v1, v2, v3] [q0, q1, q2, q3])
    (c5 : ∀ v0 v1 v2 v3 v4 q0 q1 q2 q3 q4, C [v0, v1, v2, v3, v4] [q0, q1, q2, q3, q4]) (c6 : ∀ v0 v1 v2 v3 v4 v5 q0 q1 q2 q3 q4 q5, C [v0, v1, v2, v3, v4, v5] [q0, q1, q2, q3, q4, q5]) : C xs qs := by
  match xs, qs, hl, h3, h6 with
  | [], qs, h, h3, _ => simp at h; omega
  | [_], qs, h, h3, _ => simp at h; omega
  | [_, _], qs, h, h3, _ => simp at h; omega
  | [v0, v1, v2], [q0, q1, q2], _, _, _ => exact c3 ..
  | [v0, v1, v2, v3], [q0, q1, q2, q3], _, _, _ => exact c4 ..
  | [v0, v1, v2, v3, v4], [q0, q1, q2, q3, q4], _, _, _ => exact c5 ..
  | [v0, v1, v2, v3, v4, v5], [q0, q1, q2, q3, q4, q5], _, _, _ => exact c6 ..
  | _ :: _ :: _ :: _ :: _ :: _ :: _ :: _, _ :: _ :: _ :: _ :: _ :: _ :: _ :: _, _, _, h => simp at h; try omega
def spSums (K : PySem.W.Frag) : Sp := fun vs H Q _ => ∃ r xs qs, vs = [V.ref r] ∧ SqL K H r xs ∧ Ams K H xs qs ∧ 3 ≤ qs.length ∧ qs.length ≤ 6 ∧ (∀ q ∈ qs, Sz 114 q) ∧ RetAm K H Q (sumQ qs)
abbrev s_law_sums : Stmt := top 42
theorem c_law_sums : FnScope ["_law_row", "_law_a", "_law_b", "_law_c"] ["_law_row"] (defScope s_law_sums) := ⟨rfl, rfl, rfl, by decide +kernel, rfl, by decide +kernel, by decide +kernel⟩
theorem f_law_sums (F : FunD K "_law_sums" "_law_sums" (defArgs s_law_sums) (defBody s_law_sums) (defScope s_law_sums) [] [] f fd) (hm : mg "_law_sums" = some (.ref f)) (T : Bt mg) (Fplus : Fn P w K mg base 2 "plus" (spPlus K)) : Fn P w K mg base 3 "_law_sums" (spSums K) := by
  refine fn_def F hm c_law_sums (fun vs H Q E h => ?_) (fun _ _ _ _ _ _ us hl => match us, hl with | [_], _ => rfl) (fun cdv A outer s H vs Q E hr h => ?_)
  · obtain ⟨r, xs, qs, rfl, _⟩ := h
    rfl
  · obtain ⟨r, xs, qs, rfl, hr0, ha, h3, h6, hz, k⟩ := h
    have nd := c_law_sums.nd
    refine ⟨_, (pss_cons (ps_asg (pe_slice sl_list (pv 0) po_none (po_some pe_int)) (pg_unl rfl (pgs_cons (pg_name (i := 1) nd rfl (by first | exact Or.inl rfl | exact Or.inr rfl)) (pgs_cons (pg_name (i := 2) nd rfl (by first | exact Or.inl rfl | exact Or.inr rfl)) (pgs_cons (pg_name (i := 3) nd rfl (by first | exact Or.inl rfl | exact Or.inr rfl)) pgs_nil)))))
      (pss_cons (ps_if (pt_cmpR op_eq (pe_callB cr_len (by rfl) T.len (by decide +kernel) (pa_cons (pv 0) pa_nil)) pe_int (nomark _))
        (pss_one (ps_ret (pe_fn Fplus (hr.mono (by decide)) (pa_cons (pv 1) (pa_cons (pv 2) (pa_cons (pv 3) pa_nil))))))
        pss_nil)
      (pss_cons (ps_if (pt_cmpR op_eq (pe_callB cr_len (by rfl) T.len (by decide +kernel) (pa_cons (pv 0) pa_nil)) pe_int (nomark _))
        (pss_one (ps_ret (pe_fn Fplus (hr.mono (by decide)) (pa_cons (pv 1) (pa_cons (pv 2) (pa_cons (pv 3) (pa_cons (pe_ix ix_list (pv 0) pe_int (fun _ _ => rfl)) pa_nil)))))))
        pss_nil)
      (pss_cons (ps_if (pt_cmpR op_eq (pe_callB cr_len (by rfl) T.len (by decide +kernel) (pa_cons (pv 0) pa_nil)) pe_int (nomark _))
        (pss_one (ps_ret (pe_fn Fplus (hr.mono (by decide)) (pa_cons (pv 1) (pa_cons (pv 2) (pa_cons (pv 3) (pa_cons (pe_ix ix_list (pv 0) pe_int (fun _ _ => rfl)) (pa_cons (pe_ix ix_list (pv 0) pe_int (fun _ _ => rfl)) pa_nil))))))))
        pss_nil)
      (pss_one (ps_ret (pe_fn Fplus (hr.mono (by decide)) (pa_cons (pv 1) (pa_cons (pv 2) (pa_cons (pv 3) (pa_cons (pe_ix ix_list (pv 0) pe_int (fun _ _ => rfl)) (pa_cons (pe_ix ix_list (pv 0) pe_int (fun _ _ => rfl)) (pa_cons (pe_ix ix_list (pv 0) pe_int (fun _ _ => rfl)) pa_nil))))))))))))), ?_⟩
    show (_ : TS) _ [some _, none, none, none] _
    try dsimp only [cxOf, Cx.nox]
    have hl := ha.1
    revert hr0 ha hz k
    refine row_cases (C := fun xs qs => SqL K H r xs → Ams K H xs qs → (∀ q ∈ qs, Sz 114 q) → RetAm K H Q (sumQ qs) → _) hl h3 h6 ?_ ?_ ?_ ?_
    · intro v0 v1 v2 q0 q1 q2 hr0 ha hz k
      have hc : cutV [v0, v1, v2] none (some 3) = [v0, v1, v2] := rfl
      walk_at "go"
      refine r_slList hr0 fun p hp => ?_
      rw [hc]
      have a1 := ha.x0 (Ext.refl.new (o := .lst [v0, v1, v2]) hp)
      walk_at "go"
      try refine r_len (.inl (lstN hr0 hp)) ?_
      walk_at "go"
      refine r_true (len_is (by rfl)) ?_
      walk_at "go"
      exact ⟨_, 114, a1, hz, by decide, by simp, fun v H' e a => k v H' ((Ext.refl.new hp).trans e) a⟩
    · intro v0 v1 v2 v3 q0 q1 q2 q3 hr0 ha hz k
      have hc : cutV [v0, v1, v2, v3] none (some 3) = [v0, v1, v2] := rfl
      walk_at "go"
      refine r_slList hr0 fun p hp => ?_
      rw [hc]
      have a1 := ha.x0 (Ext.refl.new (o := .lst [v0, v1, v2]) hp)
      walk_at "go"
      try refine r_len (.inl (lstN hr0 hp)) ?_
      walk_at "go"
      refine r_false (len_not (by simp)) ?_
      walk_at "go"
      try refine r_len (.inl (lstN hr0 hp)) ?_
      walk_at "go"
      refine r_true (len_is (by rfl)) ?_
      walk_at "go"
      try refine r_ixL (lstN hr0 hp) (v := v3) rfl ?_
      walk_at "go"
      exact ⟨_, 114, a1, hz, by decide, by simp, fun v H' e a => k v H' ((Ext.refl.new hp).trans e) a⟩
    · intro v0 v1 v2 v3 v4 q0 q1 q2 q3 q4 hr0 ha hz k
      have hc : cutV [v0, v1, v2, v3, v4] none (some 3) = [v0, v1, v2] := rfl
      walk_at "go"
      refine r_slList hr0 fun p hp => ?_
      rw [hc]
      have a1 := ha.x0 (Ext.refl.new (o := .lst [v0, v1, v2]) hp)
      walk_at "go"
      try refine r_len (.inl (lstN hr0 hp)) ?_
      walk_at "go"
      refine r_false (len_not (by simp)) ?_
      walk_at "go"
      try refine r_len (.inl (lstN hr0 hp)) ?_
      walk_at "go"
      refine r_false (len_not (by simp)) ?_
      walk_at "go"
      try refine r_len (.inl (lstN hr0 hp)) ?_
      walk_at "go"
      refine r_true (len_is (by rfl)) ?_
      walk_at "go"
      try refine r_ixL (lstN hr0 hp) (v := v3) rfl ?_
      walk_at "go"
      try refine r_ixL (lstN hr0 hp) (v := v4) rfl ?_
      walk_at "go"
      exact ⟨_, 114, a1, hz, by decide, by simp, fun v H' e a => k v H' ((Ext.refl.new hp).trans e) a⟩
    · intro v0 v1 v2 v3 v4 v5 q0 q1 q2 q3 q4 q5 hr0 ha hz k
      have hc : cutV [v0, v1, v2, v3, v4, v5] none (some 3) = [v0, v1, v2] := rfl
      walk_at "go"
      refine r_slList hr0 fun p hp => ?_
      rw [hc]
      have a1 := ha.x0 (Ext.refl.new (o := .lst [v0, v1, v2]) hp)
      walk_at "go"
      try refine r_len (.inl (lstN hr0 hp)) ?_
      walk_at "go"
      refine r_false (len_not (by simp)) ?_
      walk_at "go"
      try refine r_len (.inl (lstN hr0 hp)) ?_
      walk_at "go"
      refine r_false (len_not (by simp)) ?_
      walk_at "go"
      try refine r_len (.inl (lstN hr0 hp)) ?_
      walk_at "go"
      refine r_false (len_not (by simp)) ?_
      walk_at "go"
      try refine r_ixL (lstN hr0 hp) (v := v3) rfl ?_
      walk_at "go"
      try refine r_ixL (lstN hr0 hp) (v := v4) rfl ?_
      walk_at "go"
      try refine r_ixL (lstN hr0 hp) (v := v5) rfl ?_
      walk_at "go"
      exact ⟨_, 114, a1, hz, by decide, by simp, fun v H' e a => k v H' ((Ext.refl.new hp).trans e) a⟩
def spEnds (K : PySem.W.Frag) : Sp := fun vs H Q _ => ∃ r xs q0 qs, vs = [V.ref r] ∧ SqL K H r xs ∧ Ams K H xs (q0 :: qs) ∧ 3 ≤ (q0 :: qs).length ∧ (q0 :: qs).length ≤ 6 ∧ (∀ q ∈ q0 :: qs, Sz 114 q) ∧
  ∀ p v1 v2 H', H p = none → H' p = some (.lst [v1, v2]) → Am K H' v1 (minQ q0 qs) → Am K H' v2 (maxQ q0 qs) → Ext [] H H' → Q (.ref p) H'
def endsK (K : PySem.W.Frag) (H : Hp) (Q : VK) (qs : List Rat) : Prop := ∀ p v1 v2 H', H p = none → H' p = some (.lst [v1, v2]) → Am K H' v1 (minQ (qs.headD 0) qs.tail) → Am K H' v2 (maxQ (qs.headD 0) qs.tail) → Ext [] H H' → Q (.ref p) H'
abbrev s_law_ends : Stmt := top 43
theorem c_law_ends : FnScope ["_law_row", "_law_a", "_law_b", "_law_c"] ["_law_row"] (defScope s_law_ends) := ⟨rfl, rfl, rfl, by decide +kernel, rfl, by decide +kernel, by decide +kernel⟩
theorem f_law_ends (F : FunD K "_law_ends" "_law_ends" (defArgs s_law_ends) (defBody s_law_ends) (defScope s_law_ends) [] [] f fd) (hm : mg "_law_ends" = some (.ref f)) (T : Bt mg) (Fsmallest : Fn P w K mg base 2 "smallest" (spMin minQ K)) (Flargest : Fn P w K mg base 2 "largest" (spMin maxQ K)) : Fn P w K mg base 3 "_law_ends" (spEnds K) := by
  refine fn_def F hm c_law_ends (fun vs H Q E h => ?_) (fun _ _ _ _ _ _ us hl => match us, hl with | [_], _ => rfl) (fun cdv A outer s H vs Q E hr h => ?_)
  · obtain ⟨r, xs, q0, qs, rfl, _⟩ := h
    rfl
  · obtain ⟨r, xs, q0, qs, rfl, hr0, ha, h3, h6, hz, k⟩ := h
    have nd := c_law_ends.nd
    refine ⟨_, (pss_cons (ps_asg (pe_slice sl_list (pv 0) po_none (po_some pe_int)) (pg_unl rfl (pgs_cons (pg_name (i := 1) nd rfl (by first | exact Or.inl rfl | exact Or.inr rfl)) (pgs_cons (pg_name (i := 2) nd rfl (by first | exact Or.inl rfl | exact Or.inr rfl)) (pgs_cons (pg_name (i := 3) nd rfl (by first | exact Or.inl rfl | exact Or.inr rfl)) pgs_nil)))))
      (pss_cons (ps_if (pt_cmpR op_eq (pe_callB cr_len (by rfl) T.len (by decide +kernel) (pa_cons (pv 0) pa_nil)) pe_int (nomark _))
        (pss_one (ps_ret (pe_lst (pa_cons (pe_fn Fsmallest (hr.mono (by decide)) (pa_cons (pv 1) (pa_cons (pv 2) (pa_cons (pv 3) pa_nil)))) (pa_cons (pe_fn Flargest (hr.mono (by decide)) (pa_cons (pv 1) (pa_cons (pv 2) (pa_cons (pv 3) pa_nil)))) pa_nil)))))
        pss_nil)
      (pss_cons (ps_if (pt_cmpR op_eq (pe_callB cr_len (by rfl) T.len (by decide +kernel) (pa_cons (pv 0) pa_nil)) pe_int (nomark _))
        (pss_one (ps_ret (pe_lst (pa_cons (pe_fn Fsmallest (hr.mono (by decide)) (pa_cons (pv 1) (pa_cons (pv 2) (pa_cons (pv 3) (pa_cons (pe_ix ix_list (pv 0) pe_int (fun _ _ => rfl)) pa_nil))))) (pa_cons (pe_fn Flargest (hr.mono (by decide)) (pa_cons (pv 1) (pa_cons (pv 2) (pa_cons (pv 3) (pa_cons (pe_ix ix_list (pv 0) pe_int (fun _ _ => rfl)) pa_nil))))) pa_nil)))))
        pss_nil)
      (pss_cons (ps_if (pt_cmpR op_eq (pe_callB cr_len (by rfl) T.len (by decide +kernel) (pa_cons (pv 0) pa_nil)) pe_int (nomark _))
        (pss_one (ps_ret (pe_lst (pa_cons (pe_fn Fsmallest (hr.mono (by decide)) (pa_cons (pv 1) (pa_cons (pv 2) (pa_cons (pv 3) (pa_cons (pe_ix ix_list (pv 0) pe_int (fun _ _ => rfl)) (pa_cons (pe_ix ix_list (pv 0) pe_int (fun _ _ => rfl)) pa_nil)))))) (pa_cons (pe_fn Flargest (hr.mono (by decide)) (pa_cons (pv 1) (pa_cons (pv 2) (pa_cons (pv 3) (pa_cons (pe_ix ix_list (pv 0) pe_int (fun _ _ => rfl)) (pa_cons (pe_ix ix_list (pv 0) pe_int (fun _ _ => rfl)) pa_nil)))))) pa_nil)))))
        pss_nil)
      (pss_one (ps_ret (pe_lst (pa_cons (pe_fn Fsmallest (hr.mono (by decide)) (pa_cons (pv 1) (pa_cons (pv 2) (pa_cons (pv 3) (pa_cons (pe_ix ix_list (pv 0) pe_int (fun _ _ => rfl)) (pa_cons (pe_ix ix_list (pv 0) pe_int (fun _ _ => rfl)) (pa_cons (pe_ix ix_list (pv 0) pe_int (fun _ _ => rfl)) pa_nil))))))) (pa_cons (pe_fn Flargest (hr.mono (by decide)) (pa_cons (pv 1) (pa_cons (pv 2) (pa_cons (pv 3) (pa_cons (pe_ix ix_list (pv 0) pe_int (fun _ _ => rfl)) (pa_cons (pe_ix ix_list (pv 0) pe_int (fun _ _ => rfl)) (pa_cons (pe_ix ix_list (pv 0) pe_int (fun _ _ => rfl)) pa_nil))))))) pa_nil))))))))), ?_⟩
    show (_ : TS) _ [some _, none, none, none] _
    try dsimp only [cxOf, Cx.nox]
    have k : endsK K H Q (q0 :: qs) := k
    have hl := ha.1
    revert hr0 ha hz k
    refine row_cases (C := fun xs qs => SqL K H r xs → Ams K H xs qs → (∀ q ∈ qs, Sz 114 q) → endsK K H Q qs → _) hl h3 h6 ?_ ?_ ?_ ?_
    · intro v0 v1 v2 q0 q1 q2 hr0 ha hz k
      have hc : cutV [v0, v1, v2] none (some 3) = [v0, v1, v2] := rfl
      walk_at "go"
      refine r_slList hr0 fun p hp => ?_
      rw [hc]
      have a1 := ha.x0 (Ext.refl.new (o := .lst [v0, v1, v2]) hp)
      walk_at "go"
      try refine r_len (.inl (lstN hr0 hp)) ?_
      walk_at "go"
      refine r_true (len_is (by rfl)) ?_
      walk_at "go"
      refine ⟨q0, _, a1, fun q hq => (hz q hq).mono (by decide), by simp, fun m1 H1 e1 b1 => ?_⟩
      walk_at "go"
      refine ⟨q0, _, a1.x0 e1, fun q hq => (hz q hq).mono (by decide), by simp, fun m2 H2 e2 b2 => ?_⟩
      walk_at "go"
      have e3 : Ext [] H H2 := ((Ext.refl.new hp).trans e1).trans e2
      exact k _ m1 m2 _ (e3.free (by assumption)) upd_same ((b1.x0 e2).n (by assumption)) (b2.n (by assumption)) (e3.new (by assumption))
    · intro v0 v1 v2 v3 q0 q1 q2 q3 hr0 ha hz k
      have hc : cutV [v0, v1, v2, v3] none (some 3) = [v0, v1, v2] := rfl
      walk_at "go"
      refine r_slList hr0 fun p hp => ?_
      rw [hc]
      have a1 := ha.x0 (Ext.refl.new (o := .lst [v0, v1, v2]) hp)
      walk_at "go"
      try refine r_len (.inl (lstN hr0 hp)) ?_
      walk_at "go"
      refine r_false (len_not (by simp)) ?_
      walk_at "go"
      try refine r_len (.inl (lstN hr0 hp)) ?_
      walk_at "go"
      refine r_true (len_is (by rfl)) ?_
      walk_at "go"
      try refine r_ixL (lstN hr0 hp) (v := v3) rfl ?_
      walk_at "go"
      refine ⟨q0, _, a1, fun q hq => (hz q hq).mono (by decide), by simp, fun m1 H1 e1 b1 => ?_⟩
      walk_at "go"
      try refine r_ixL (lst0 e1 (lstN hr0 hp)) (v := v3) rfl ?_
      walk_at "go"
      refine ⟨q0, _, a1.x0 e1, fun q hq => (hz q hq).mono (by decide), by simp, fun m2 H2 e2 b2 => ?_⟩
      walk_at "go"
      have e3 : Ext [] H H2 := ((Ext.refl.new hp).trans e1).trans e2
      exact k _ m1 m2 _ (e3.free (by assumption)) upd_same ((b1.x0 e2).n (by assumption)) (b2.n (by assumption)) (e3.new (by assumption))
    · intro v0 v1 v2 v3 v4 q0 q1 q2 q3 q4 hr0 ha hz k
      have hc : cutV [v0, v1, v2, v3, v4] none (some 3) = [v0, v1, v2] := rfl
      walk_at "go"
      refine r_slList hr0 fun p hp => ?_
      rw [hc]
      have a1 := ha.x0 (Ext.refl.new (o := .lst [v0, v1, v2]) hp)
      walk_at "go"
      try refine r_len (.inl (lstN hr0 hp)) ?_
      walk_at "go"
      refine r_false (len_not (by simp)) ?_
      walk_at "go"
      try refine r_len (.inl (lstN hr0 hp)) ?_
      walk_at "go"
      refine r_false (len_not (by simp)) ?_
      walk_at "go"
      try refine r_len (.inl (lstN hr0 hp)) ?_
      walk_at "go"
      refine r_true (len_is (by rfl)) ?_
      walk_at "go"
      try refine r_ixL (lstN hr0 hp) (v := v3) rfl ?_
      walk_at "go"
      try refine r_ixL (lstN hr0 hp) (v := v4) rfl ?_
      walk_at "go"
      refine ⟨q0, _, a1, fun q hq => (hz q hq).mono (by decide), by simp, fun m1 H1 e1 b1 => ?_⟩
      walk_at "go"
      try refine r_ixL (lst0 e1 (lstN hr0 hp)) (v := v3) rfl ?_
      walk_at "go"
      try refine r_ixL (lst0 e1 (lstN hr0 hp)) (v := v4) rfl ?_
      walk_at "go"
      refine ⟨q0, _, a1.x0 e1, fun q hq => (hz q hq).mono (by decide), by simp, fun m2 H2 e2 b2 => ?_⟩
      walk_at "go"
      have e3 : Ext [] H H2 := ((Ext.refl.new hp).trans e1).trans e2
      exact k _ m1 m2 _ (e3.free (by assumption)) upd_same ((b1.x0 e2).n (by assumption)) (b2.n (by assumption)) (e3.new (by assumption))
    · intro v0 v1 v2 v3 v4 v5 q0 q1 q2 q3 q4 q5 hr0 ha hz k
      have hc : cutV [v0, v1, v2, v3, v4, v5] none (some 3) = [v0, v1, v2] := rfl
      walk_at "go"
      refine r_slList hr0 fun p hp => ?_
      rw [hc]
      have a1 := ha.x0 (Ext.refl.new (o := .lst [v0, v1, v2]) hp)
      walk_at "go"
      try refine r_len (.inl (lstN hr0 hp)) ?_
      walk_at "go"
      refine r_false (len_not (by simp)) ?_
      walk_at "go"
      try refine r_len (.inl (lstN hr0 hp)) ?_
      walk_at "go"
      refine r_false (len_not (by simp)) ?_
      walk_at "go"
      try refine r_len (.inl (lstN hr0 hp)) ?_
      walk_at "go"
      refine r_false (len_not (by simp)) ?_
      walk_at "go"
      try refine r_ixL (lstN hr0 hp) (v := v3) rfl ?_
      walk_at "go"
      try refine r_ixL (lstN hr0 hp) (v := v4) rfl ?_
      walk_at "go"
      try refine r_ixL (lstN hr0 hp) (v := v5) rfl ?_
      walk_at "go"
      refine ⟨q0, _, a1, fun q hq => (hz q hq).mono (by decide), by simp, fun m1 H1 e1 b1 => ?_⟩
      walk_at "go"
      try refine r_ixL (lst0 e1 (lstN hr0 hp)) (v := v3) rfl ?_
      walk_at "go"
      try refine r_ixL (lst0 e1 (lstN hr0 hp)) (v := v4) rfl ?_
      walk_at "go"
      try refine r_ixL (lst0 e1 (lstN hr0 hp)) (v := v5) rfl ?_
      walk_at "go"
      refine ⟨q0, _, a1.x0 e1, fun q hq => (hz q hq).mono (by decide), by simp, fun m2 H2 e2 b2 => ?_⟩
      walk_at "go"
      have e3 : Ext [] H H2 := ((Ext.refl.new hp).trans e1).trans e2
      exact k _ m1 m2 _ (e3.free (by assumption)) upd_same ((b1.x0 e2).n (by assumption)) (b2.n (by assumption)) (e3.new (by assumption))
end
end Yk

set_option maxHeartbeats 4000000
namespace Yk
open PySem PySem.Spec PyProof.Rows L2

section
variable {P : Program} {w : World} {K : PySem.W.Frag} {mg : Str → Option Value} {base : Heap} {f : Addr} {fd : FuncData}
/-! rows by their sizes, in any order -/
inductive Szs : Nat → List Rat → Prop where
  | nil : Szs 0 []
  | cons {m B : Nat} {q : Rat} {ps : List Rat} (h : Sz m q) (r : Szs B ps) : Szs (B + (m + 1)) (q :: ps)
theorem Szs.perm {l l' : List Rat} (p : l.Perm l') : ∀ {B : Nat}, Szs B l → Szs B l' := by
  induction p with
  | nil => exact fun h => h
  | cons x _ ih =>
    intro B h
    cases h with
    | cons h r => exact .cons h (ih r)
  | swap x y l =>
    intro B h
    cases h with
    | cons h r =>
      cases r with
      | cons h2 r =>
        rename_i m1 m2 B2
        have := Szs.cons h2 (Szs.cons h r)
        rw [show B2 + (m2 + 1) + (m1 + 1) = B2 + (m1 + 1) + (m2 + 1) by omega]
        exact this
  | trans _ _ ih1 ih2 => exact fun h => ih2 (ih1 h)
theorem Szs.all : ∀ {l : List Rat} {m : Nat}, (∀ q ∈ l, Sz m q) → Szs (l.length * (m + 1)) l
  | [], m, _ => by simpa using Szs.nil
  | q :: r, m, h => by
    have := Szs.cons (h q List.mem_cons_self) (Szs.all (l := r) (m := m) fun x hx => h x (List.mem_cons_of_mem _ hx))
    rw [List.length_cons, Nat.add_mul, Nat.one_mul]
    exact this
def opR (g : Rat → Rat → Rat) (z : Rat) (l : List Rat) : Rat := l.foldr g z
theorem opR_perm {g : Rat → Rat → Rat} {z : Rat} (hg : ∀ a b c, g a (g b c) = g b (g a c)) {l l' : List Rat} (p : l.Perm l') : opR g z l = opR g z l' := by
  induction p with
  | nil => rfl
  | cons x _ ih => exact congrArg (g x) ih
  | swap x y l => exact hg _ _ _
  | trans _ _ h1 h2 => exact h1.trans h2
theorem sumQ_R (l : List Rat) : sumQ l = opR (· + ·) 0 l := by
  have h : ∀ (l : List Rat) (z : Rat), l.foldl (· + ·) z = z + opR (· + ·) 0 l := by
    intro l
    induction l with
    | nil => intro z; show z = z + 0; rw [Rat.add_zero]
    | cons a r ih =>
      intro z
      show r.foldl (· + ·) (z + a) = z + (a + opR (· + ·) 0 r)
      rw [ih, Rat.add_assoc]
  unfold sumQ
  rw [h, Rat.zero_add]
theorem sumQ_perm {l l' : List Rat} (p : l.Perm l') : sumQ l = sumQ l' := by
  rw [sumQ_R, sumQ_R]
  exact opR_perm (fun a b c => by rw [← Rat.add_assoc, Rat.add_comm a b, Rat.add_assoc]) p
def prodQ (qs : List Rat) : Rat := qs.foldl (· * ·) 1
theorem prodQ_R (l : List Rat) : prodQ l = opR (· * ·) 1 l := by
  have h : ∀ (l : List Rat) (z : Rat), l.foldl (· * ·) z = z * opR (· * ·) 1 l := by
    intro l
    induction l with
    | nil => intro z; show z = z * 1; rw [Rat.mul_one]
    | cons a r ih =>
      intro z
      show r.foldl (· * ·) (z * a) = z * (a * opR (· * ·) 1 r)
      rw [ih, Rat.mul_assoc]
  unfold prodQ
  rw [h, Rat.one_mul]
theorem Ams.erase {H : Hp} {xs : List V} {qs : List Rat} (h : Ams K H xs qs) (i : Nat) : Ams K H (xs.eraseIdx i) (qs.eraseIdx i) := by
  refine ⟨by rw [List.length_eraseIdx, List.length_eraseIdx, h.1], fun j v q a b => ?_⟩
  rw [List.getElem?_eraseIdx] at a b
  split at a
  · rename_i hj
    rw [if_pos hj] at b
    exact h.2 j v q a b
  · rename_i hj
    rw [if_neg hj] at b
    exact h.2 (j + 1) v q a b
theorem Ams.app {H : Hp} {xs ys : List V} {qs rs : List Rat} (h : Ams K H xs qs) (r : Ams K H ys rs) : Ams K H (xs ++ ys) (qs ++ rs) := by
  refine ⟨by rw [List.length_append, List.length_append, h.1, r.1], fun j v q a b => ?_⟩
  by_cases hj : j < xs.length
  · rw [List.getElem?_append_left hj] at a
    rw [List.getElem?_append_left (by rw [← h.1]; exact hj)] at b
    exact h.2 j v q a b
  · rw [List.getElem?_append_right (by omega)] at a
    rw [List.getElem?_append_right (by rw [← h.1]; omega), ← h.1] at b
    exact r.2 _ v q a b
theorem Ams.take {H : Hp} {xs : List V} {qs : List Rat} (h : Ams K H xs qs) (n : Nat) : Ams K H (xs.take n) (qs.take n) := by
  refine ⟨by rw [List.length_take, List.length_take, h.1], fun j v q a b => ?_⟩
  rw [List.getElem?_take] at a b
  split at a
  · rename_i hj
    rw [if_pos hj] at b
    exact h.2 j v q a b
  · cases a
theorem Ams.drop {H : Hp} {xs : List V} {qs : List Rat} (h : Ams K H xs qs) (n : Nat) : Ams K H (xs.drop n) (qs.drop n) := by
  refine ⟨by rw [List.length_drop, List.length_drop, h.1], fun j v q a b => ?_⟩
  rw [List.getElem?_drop] at a b
  exact h.2 _ v q a b
theorem permR : ∀ {xs : List Rat} {i : Nat} (h : i < xs.length), (xs[i] :: xs.eraseIdx i).Perm xs
  | a :: r, 0, _ => List.Perm.refl _
  | a :: r, i + 1, h => ((List.Perm.swap a _ _)).trans ((permR (xs := r) (i := i) (by simpa using h)).cons a)
theorem permI (xs : List Rat) (z : Rat) (k : Nat) : (xs.take k ++ [z] ++ xs.drop k).Perm (z :: xs) := by
  have h : (xs.take k ++ z :: xs.drop k).Perm (z :: (xs.take k ++ xs.drop k)) := List.perm_middle
  rw [List.take_append_drop] at h
  rw [List.append_assoc]
  exact h
/-- a pair put together: its value, its size -/
structure Join (g : Rat → Rat → Rat) (z : Rat) : Prop where
  swap : ∀ a b c, g a (g b c) = g b (g a c)
  assoc : ∀ a b c, g (g a b) c = g a (g b c)
  one : ∀ a, g a z = a
  sz : ∀ {m n : Nat} {a b : Rat}, Sz m a → Sz n b → Sz (m + n + 1) (g a b)
theorem join_add : Join (· + ·) 0 := ⟨fun a b c => by show a + (b + c) = b + (a + c); rw [← Rat.add_assoc, Rat.add_comm a b, Rat.add_assoc], fun a b c => Rat.add_assoc a b c, fun a => Rat.add_zero a, sz_add⟩
theorem join_mul : Join (· * ·) 1 := ⟨fun a b c => by show a * (b * c) = b * (a * c); rw [← Rat.mul_assoc, Rat.mul_comm a b, Rat.mul_assoc], fun a b c => Rat.mul_assoc a b c, fun a => Rat.mul_one a, fun h1 h2 => (sz_mul h1 h2).mono (by omega)⟩
theorem Join.two {g : Rat → Rat → Rat} {z : Rat} (J : Join g z) (a b : Rat) (l : List Rat) : opR g z (a :: b :: l) = opR g z (g a b :: l) := (J.assoc a b _).symm
theorem Join.sz2 {g : Rat → Rat → Rat} {z : Rat} (J : Join g z) {a b : Rat} {l : List Rat} {B : Nat} (h : Szs B (a :: b :: l)) : Szs B (g a b :: l) := by
  cases h with
  | cons h1 r =>
    cases r with
    | cons h2 r =>
      rename_i m1 m2 B2
      have := Szs.cons (J.sz h1 h2) r
      rw [show B2 + (m2 + 1) + (m1 + 1) = B2 + (m1 + m2 + 1 + 1) by omega]
      exact this
theorem Szs.hd {B : Nat} {a : Rat} {l : List Rat} (h : Szs B (a :: l)) : Sz B a := by
  cases h with
  | cons h1 r => exact h1.mono (by omega)
theorem Szs.tl {B : Nat} {a : Rat} {l : List Rat} (h : Szs B (a :: l)) : ∃ B', B' ≤ B ∧ Szs B' l := by
  cases h with
  | cons h1 r => exact ⟨_, by omega, r⟩
def gop (c : Bool) : Rat → Rat → Rat := if c then (· + ·) else (· * ·)
def gun (c : Bool) : Rat := if c then 0 else 1
theorem join_of (c : Bool) : Join (gop c) (gun c) := by
  cases c
  · exact join_mul
  · exact join_add
def spGrouped (K : PySem.W.Frag) : Sp := fun vs H Q _ => ∃ (b : Bag) (r : Addr) (c : Bool) (xs : List V) (qs : List Rat), vs = [.ref b.a, .ref r, .bl c] ∧ BagAt K H b ∧ SqL K H r xs ∧ b.a ≠ r ∧ Ams K H xs qs ∧ 1 ≤ qs.length ∧ qs.length ≤ 6 ∧ (∀ q ∈ qs, Sz 114 q) ∧
  ∀ v H', Am K H' v (opR (gop c) (gun c) qs) → BagAt K H' b → Ext [b.a] H H' → Q v H'
abbrev s_law_grouped : Stmt := top 44
theorem c_law_grouped : FnScope ["_law_bag_here", "_law_row", "_law_adding", "_law_pool", "_law_turn", "_law_x", "_law_y"] ["_law_bag_here", "_law_row", "_law_adding"] (defScope s_law_grouped) := ⟨rfl, rfl, rfl, by decide +kernel, rfl, by decide +kernel, by decide +kernel⟩
theorem f_law_grouped (F : FunD K "_law_grouped" "_law_grouped" (defArgs s_law_grouped) (defBody s_law_grouped) (defScope s_law_grouped) [] [] f fd) (hm : mg "_law_grouped" = some (.ref f)) (T : Bt mg) (F_law_draw : Fn P w K mg base 1 "_law_draw" (spDraw K)) (Fplus : Fn P w K mg base 2 "plus" (spPlus K)) (Ftimes : Fn P w K mg base 2 "times" (spTimes K)) : Fn P w K mg base 3 "_law_grouped" (spGrouped K) := by
  refine fn_def F hm c_law_grouped (fun vs H Q E h => ?_) (fun _ _ _ _ _ _ us hl => match us, hl with | [_, _, _], _ => rfl) (fun cdv A outer s H vs Q E hr h => ?_)
  · obtain ⟨b, r, c, xs, qs, rfl, _⟩ := h
    rfl
  · obtain ⟨b, r, c, xs, qs, rfl, hb, hr0, hne, ha, h1, h6, hz, k⟩ := h
    have nd := c_law_grouped.nd
    refine ⟨_, (pss_cons (ps_set (i := 3) nd rfl (by first | exact Or.inl rfl | exact Or.inr rfl) (pe_callTy cr_list (by rfl) T.list (by decide +kernel) (pa_cons (pv 1) pa_nil)))
      (pss_cons (ps_for PassesOwn.never rfl (pi_range1 rfl T.range (pa_cons (pe_op op_sub (pe_callB cr_len (by rfl) T.len (by decide +kernel) (pa_cons (pv 1) pa_nil)) pe_int) pa_nil)) (pg_name (i := 4) nd rfl (by first | exact Or.inl rfl | exact Or.inr rfl))
        (pss_cons (ps_set (i := 5) nd rfl (by first | exact Or.inl rfl | exact Or.inr rfl) (pe_bm PySem.F.plainAttrs_list PySem.F.slot_list_pop PySem.F.type_list_pop mt_popAt (pv 3) (pa_cons (pe_fn F_law_draw (hr.mono (by decide)) (pa_cons (pv 0) (pa_cons (pe_callB cr_len (by rfl) T.len (by decide +kernel) (pa_cons (pv 3) pa_nil)) pa_nil))) pa_nil)))
        (pss_cons (ps_set (i := 6) nd rfl (by first | exact Or.inl rfl | exact Or.inr rfl) (pe_bm PySem.F.plainAttrs_list PySem.F.slot_list_pop PySem.F.type_list_pop mt_popAt (pv 3) (pa_cons (pe_fn F_law_draw (hr.mono (by decide)) (pa_cons (pv 0) (pa_cons (pe_callB cr_len (by rfl) T.len (by decide +kernel) (pa_cons (pv 3) pa_nil)) pa_nil))) pa_nil)))
        (pss_one (ps_expr (pe_bm PySem.F.plainAttrs_list PySem.F.slot_list_insert PySem.F.type_list_insert mt_insert (pv 3) (pa_cons (pe_fn F_law_draw (hr.mono (by decide)) (pa_cons (pv 0) (pa_cons (pe_op op_add (pe_callB cr_len (by rfl) T.len (by decide +kernel) (pa_cons (pv 3) pa_nil)) pe_int) pa_nil))) (pa_cons (pe_ifExp (pt_val (pv 2)) (pe_fn Fplus (hr.mono (by decide)) (pa_cons (pv 5) (pa_cons (pv 6) pa_nil))) (pe_fn Ftimes (hr.mono (by decide)) (pa_cons (pv 5) (pa_cons (pv 6) pa_nil)))) pa_nil))))))))
      (pss_one (ps_ret (pe_ix ix_list (pv 3) pe_int (fun _ _ => rfl)))))), ?_⟩
    show (_ : TS) _ [some _, some _, some _, none, none, none, none] _
    try dsimp only [cxOf, Cx.nox]
    walk_at "go"
    refine r_list (.inl hr0) fun p hp => ?_
    walk_at "go"
    have npb : p ≠ b.a := fun z => hb.ne hp z.symm
    refine r_for ?_
    walk_at "go"
    try refine r_len (.inl (lstN hr0 hp)) ?_
    walk_at "go"
    refine ⟨_, rfl, by omega, by rw [ha.1]; omega, ?_⟩
    have lx := ha.1
    have hz0 := Szs.all hz
    have hB : qs.length * (114 + 1) ≤ 690 := by omega
    refine r_loopR (fun i σ H1 => ∃ (pool : List V) (ps : List Rat) (B : Nat) (u1 u2 u3 : Option V), σ = [some (V.ref b.a), some (V.ref r), some (V.bl c), some (V.ref p), u1, u2, u3] ∧ H1 p = some (.lst pool) ∧ Ams K H1 pool ps ∧ ps.length + i = xs.length ∧ Szs B ps ∧ B ≤ 690 ∧
      opR (gop c) (gun c) ps = opR (gop c) (gun c) qs ∧ BagAt K H1 b ∧ Ext [b.a] H H1)
      ⟨xs, qs, _, none, none, none, rfl, upd_same, ha.x0 (Ext.refl.new hp), ha.1.symm, hz0, hB, rfl, hb.new hp, Ext.refl.new hp⟩ ?_ ?_
    · rintro i σ H1 hi ⟨pool, ps, B, u1, u2, u3, rfl, hpool, hps, hlen, hB1, hB2, hval, hb1, e1⟩
      have lp := hps.1
      walk_at "go"
      refine ⟨.inl ⟨rfl, _, .inl (.inl hpool)⟩, ?_⟩
      walk_at "go"
      try refine r_len (.inl (.inl (.inl hpool))) ?_
      walk_at "go"
      refine ⟨b, _, rfl, by omega, Int.lt_of_le_of_lt (by omega : (pool.length : Int) ≤ 4000) (by decide), hb1, fun x H2 x0 x1 hb2 e2 => ?_⟩
      walk_at "go"
      have hx : x.toNat < pool.length := by omega
      have hxq : x.toNat < ps.length := by omega
      have hp2 : H2 p = some (.lst pool) := e2 _ _ hpool (by simpa using npb)
      have hps2 := hps.b hb1 e2
      have hv := hps2.2 _ _ _ (List.getElem?_eq_getElem hx) (List.getElem?_eq_getElem hxq)
      refine r_popAt hp2 (by omega : x = ((x.toNat : Nat) : Int)) (List.getElem?_eq_getElem hx) (by omega) ?_
      have S3 : ∀ c ∈ [p], ∃ l, H2 c = some (.lst l) := fun c hc => by rw [List.mem_singleton.mp hc]; exact ⟨_, hp2⟩
      have e3 : Ext [p] H2 (upd H2 p (.lst (pool.eraseIdx x.toNat))) := Ext.refl.at_ List.mem_cons_self
      have hps3 := (hps2.erase x.toNat).x e3 S3
      have hv3 := hv.x e3 S3
      have hb3 := hb.own (o := .lst (pool.eraseIdx x.toNat)) hp hb2
      have ex3 := (e1.trans e2).own (o := .lst (pool.eraseIdx x.toNat)) hp
      have perm1 := permR hxq
      generalize hP1 : ps.eraseIdx x.toNat = ps1 at *
      generalize hQ1 : pool.eraseIdx x.toNat = pool1 at *
      have hp3 : upd H2 p (.lst pool1) p = some (.lst pool1) := upd_same
      have l1 : ps1.length + 1 = ps.length := by rw [← hP1, List.length_eraseIdx_of_lt hxq]; omega
      have lp1 := hps3.1
      generalize upd H2 p (.lst pool1) = H3 at *
      walk_at "go"
      refine ⟨.inl ⟨rfl, _, .inl (.inl hp3)⟩, ?_⟩
      walk_at "go"
      try refine r_len (.inl (.inl (.inl hp3))) ?_
      walk_at "go"
      refine ⟨b, _, rfl, by omega, Int.lt_of_le_of_lt (by omega : (pool1.length : Int) ≤ 4000) (by decide), hb3, fun y H4 y0 y1 hb4 e4 => ?_⟩
      walk_at "go"
      have hy : y.toNat < pool1.length := by omega
      have hyq : y.toNat < ps1.length := by omega
      have hp4 : H4 p = some (.lst pool1) := e4 _ _ hp3 (by simpa using npb)
      have hps4 := hps3.b hb3 e4
      have hv4 := hv3.b hb3 e4
      have hw4 := hps4.2 _ _ _ (List.getElem?_eq_getElem hy) (List.getElem?_eq_getElem hyq)
      refine r_popAt hp4 (by omega : y = ((y.toNat : Nat) : Int)) (List.getElem?_eq_getElem hy) (by omega) ?_
      have S5 : ∀ c ∈ [p], ∃ l, H4 c = some (.lst l) := fun c hc => by rw [List.mem_singleton.mp hc]; exact ⟨_, hp4⟩
      have e5 : Ext [p] H4 (upd H4 p (.lst (pool1.eraseIdx y.toNat))) := Ext.refl.at_ List.mem_cons_self
      have hps5 := (hps4.erase y.toNat).x e5 S5
      have hv5 := hv4.x e5 S5
      have hw5 := hw4.x e5 S5
      have hb5 := hb.own (o := .lst (pool1.eraseIdx y.toNat)) hp hb4
      have ex5 := (ex3.trans e4).own (o := .lst (pool1.eraseIdx y.toNat)) hp
      have perm2 := permR hyq
      generalize hP2 : ps1.eraseIdx y.toNat = ps2 at *
      generalize hQ2 : pool1.eraseIdx y.toNat = pool2 at *
      have hp5 : upd H4 p (.lst pool2) p = some (.lst pool2) := upd_same
      have l2 : ps2.length + 1 = ps1.length := by rw [← hP2, List.length_eraseIdx_of_lt hyq]; omega
      have lp2 := hps5.1
      generalize upd H4 p (.lst pool2) = H5 at *
      have permA : (ps[x.toNat] :: ps1[y.toNat] :: ps2).Perm ps := (perm2.cons _).trans perm1
      have szA := hB1.perm permA.symm
      have valA : opR (gop c) (gun c) (ps[x.toNat] :: ps1[y.toNat] :: ps2) = opR (gop c) (gun c) qs := (opR_perm (join_of c).swap permA).trans hval
      have sx := szA.hd.mono hB2
      have sy : Sz 690 ps1[y.toNat] := by obtain ⟨B', hB', h⟩ := szA.tl; exact h.hd.mono (by omega)
      generalize ps[x.toNat] = qx at *
      generalize ps1[y.toNat] = qy at *
      generalize pool[x.toNat] = vx at *
      generalize pool1[y.toNat] = vy at *
      walk_at "go"
      refine ⟨.inl ⟨rfl, _, .inl (.inl hp5)⟩, ?_⟩
      walk_at "go"
      try refine r_len (.inl (.inl (.inl hp5))) ?_
      walk_at "go"
      refine ⟨b, _, rfl, by omega, Int.lt_of_le_of_lt (by omega : (pool2.length : Int) + 1 ≤ 4000) (by decide), hb5, fun z H6 z0 z1 hb6 e6 => ?_⟩
      have hp6 : H6 p = some (.lst pool2) := e6 _ _ hp5 (by simpa using npb)
      have hps6 := hps5.b hb5 e6
      have hv6 := hv5.b hb5 e6
      have hw6 := hw5.b hb5 e6
      have ex6 := ex5.trans e6
      have fin : ∀ (v : V) (H7 : Hp), Ext [] H6 H7 → Am K H7 v (gop c qx qy) → ∃ (l : Addr) (xs_1 : List V) (i_1 : Int) (y_1 : V), V.ref p = .ref l ∧ [V.int z, v] = [.int i_1, y_1] ∧ H7 l = some (.lst xs_1) ∧ xs_1.length < sizeLine ∧ 0 ≤ i_1 ∧ i_1 < 2 ^ 63 ∧
          ∃ (pool' : List V) (ps' : List Rat) (B' : Nat) (u1 u2 u3 : Option V), [some (V.ref b.a), some (V.ref r), some (V.bl c), some (V.ref p), some (V.int (0 + (i : Int))), some vx, some vy] = [some (V.ref b.a), some (V.ref r), some (V.bl c), some (V.ref p), u1, u2, u3] ∧ upd H7 l (.lst (xs_1.take i_1.toNat ++ [y_1] ++ xs_1.drop i_1.toNat)) p = some (.lst pool') ∧
            Ams K (upd H7 l (.lst (xs_1.take i_1.toNat ++ [y_1] ++ xs_1.drop i_1.toNat))) pool' ps' ∧ ps'.length + (i + 1) = xs.length ∧ Szs B' ps' ∧ B' ≤ 690 ∧ opR (gop c) (gun c) ps' = opR (gop c) (gun c) qs ∧ BagAt K (upd H7 l (.lst (xs_1.take i_1.toNat ++ [y_1] ++ xs_1.drop i_1.toNat))) b ∧ Ext [b.a] H (upd H7 l (.lst (xs_1.take i_1.toNat ++ [y_1] ++ xs_1.drop i_1.toNat))) := by
        intro v H7 e7 a7
        have hp7 : H7 p = some (.lst pool2) := e7 _ _ hp6 (fun z => nomatch z)
        have S8 : ∀ c ∈ [p], ∃ l, H7 c = some (.lst l) := fun c hc => by rw [List.mem_singleton.mp hc]; exact ⟨_, hp7⟩
        refine ⟨p, pool2, z, v, rfl, rfl, hp7, Nat.lt_of_le_of_lt (by omega : pool2.length ≤ 4000) (by decide), z0, by omega, _, ps2.take z.toNat ++ [gop c qx qy] ++ ps2.drop z.toNat, _, _, _, _, rfl, upd_same, ?_, ?_, ((join_of c).sz2 szA).perm (permI ps2 _ _).symm, hB2, ?_, hb.own hp (hb6.x0 e7), (ex6.trans e7.of0).own hp⟩
        · have h7 := hps6.x0 e7
          refine Ams.x (S := [p]) (Ext.refl.at_ List.mem_cons_self) (((h7.take _).app (Ams.cons a7 Ams.nil)).app (h7.drop _)) S8
        · have := (permI ps2 (gop c qx qy) z.toNat).length_eq
          rw [this, List.length_cons]
          omega
        · rw [opR_perm (join_of c).swap (permI ps2 _ _), ← (join_of c).two]
          exact valA
      walk_at "go"
      cases c with
      | true =>
        refine r_tt ?_
        walk_at "go"
        refine ⟨[qx, qy], 690, Ams.cons hv6 (Ams.cons hw6 Ams.nil), ?_, by decide, by simp, fun v H7 e7 a7 => ?_⟩
        · intro q hq
          rcases List.mem_cons.mp hq with rfl | hq
          · exact sx
          · rw [List.mem_singleton.mp hq]; exact sy
        · have ez : sumQ [qx, qy] = gop true qx qy := by show 0 + qx + qy = qx + qy; rw [Rat.zero_add]
          rw [ez] at a7
          walk_at "go"
          exact fin v H7 e7 a7
      | false =>
        refine iteF ?_
        walk_at "go"
        refine ⟨_, _, qx, qy, rfl, hv6, hw6, sx.mono (by decide), sy.mono (by decide), fun v H7 e7 a7 => ?_⟩
        walk_at "go"
        exact fin v H7 e7 a7
    · rintro σ H1 ⟨pool, ps, B, u1, u2, u3, rfl, hpool, hps, hlen, hB1, hB2, hval, hb1, e1⟩
      have lp := hps.1
      match ps, pool, lp, hps, hval, hlen with
      | [q], [v], _, hps, hval, _ =>
        walk_at "go"
        try refine r_ixL (.inl (.inl hpool)) (v := v) rfl ?_
        refine k v H1 ?_ hb1 e1
        have h := hps.2 0 v q rfl rfl
        rw [← hval]
        show Am K H1 v (gop c q (gun c))
        rw [(join_of c).one]
        exact h
      | [], _, _, _, _, h => simp at h; omega
      | _ :: _ :: _, _, _, _, _, h => simp at h; omega
      | [_], [], h, _, _, _ => simp at h
      | [_], _ :: _ :: _, h, _, _, _ => simp at h
end
end Yk

set_option maxHeartbeats 4000000
namespace Yk
open PySem PySem.Spec PyProof.Rows L2

/-- the same data, so deep -/
inductive Eqd (K : PySem.W.Frag) (H : Hp) : Nat → V → V → Prop where
  | non (n : Nat) : Eqd K H n .non .non
  | bl (n : Nat) (b : Bool) : Eqd K H n (.bl b) (.bl b)
  | int (n : Nat) (i : Int) : Eqd K H n (.int i) (.int i)
  | str (n : Nat) (z : Str) : Eqd K H n (.str z) (.str z)
  | tup {n : Nat} {a b : Addr} {xs ys : List V} (ha : SqT K H a xs) (hb : SqT K H b ys) (hl : xs.length = ys.length) (h4 : xs.length ≤ 4000) (h : ∀ (i : Nat) (x y : V), xs[i]? = some x → ys[i]? = some y → Eqd K H n x y) : Eqd K H (n + 1) (.ref a) (.ref b)
  | lst {n : Nat} {a b : Addr} {xs ys : List V} (ha : SqL K H a xs) (hb : SqL K H b ys) (hl : xs.length = ys.length) (h4 : xs.length ≤ 4000) (h : ∀ (i : Nat) (x y : V), xs[i]? = some x → ys[i]? = some y → Eqd K H n x y) : Eqd K H (n + 1) (.ref a) (.ref b)
theorem Eqd.x0 {K : PySem.W.Frag} {H H1 : Hp} (e : Ext [] H H1) {n : Nat} {v w : V} (h : Eqd K H n v w) : Eqd K H1 n v w := by
  induction h with
  | non n => exact .non n
  | bl n b => exact .bl n b
  | int n i => exact .int n i
  | str n z => exact .str n z
  | tup ha hb hl h4 _ ih => exact .tup (tup0 e ha) (tup0 e hb) hl h4 ih
  | lst ha hb hl h4 _ ih => exact .lst (lst0 e ha) (lst0 e hb) hl h4 ih
theorem Am.eqd {K : PySem.W.Frag} {H : Hp} {v w : V} {q : Rat} (n : Nat) (h1 : Am K H v q) (h2 : Am K H w q) : Eqd K H (n + 1) v w := by
  obtain ⟨a, rfl, h1⟩ := h1
  obtain ⟨b, rfl, h2⟩ := h2
  refine .tup h1 h2 rfl (by simp) fun i x y hx hy => ?_
  rw [hx] at hy
  cases hy
  match i, hx with
  | 0, hx => cases hx; exact .int _ _
  | 1, hx => cases hx; exact .int _ _
  | i + 2, hx => cases hx
def spLike (K : PySem.W.Frag) : Nat → Sp
  | 0 => fun _ _ _ _ => False
  | n + 1 => fun vs H Q _ => ∃ v1 v2, vs = [v1, v2] ∧ Eqd K H n v1 v2 ∧ ∀ H', Ext [] H H' → Q (.bl true) H'
section
variable {P : Program} {w : World} {K : PySem.W.Frag} {mg : Str → Option Value} {base : Heap} {f : Addr} {fd : FuncData}
abbrev s_law_like : Stmt := top 28
theorem c_law_like : FnScope ["_law_told", "_law_due", "_law_a", "_law_b"] ["_law_told", "_law_due"] (defScope s_law_like) := ⟨rfl, rfl, rfl, by decide +kernel, rfl, by decide +kernel, by decide +kernel⟩
theorem f_law_like (F : FunD K "_law_like" "_law_like" (defArgs s_law_like) (defBody s_law_like) (defScope s_law_like) [] [] f fd) (hm : mg "_law_like" = some (.ref f)) (T : Bt mg) (n : Nat) (F_law_like : Fn P w K mg base n "_law_like" (spLike K n)) : Fn P w K mg base (n+1) "_law_like" (spLike K (n + 1)) := by
  refine fn_def F hm c_law_like (fun vs H Q E h => ?_) (fun _ _ _ _ _ _ us hl => match us, hl with | [_, _], _ => rfl) (fun cdv A outer s H vs Q E hr h => ?_)
  · obtain ⟨v1, v2, rfl, _⟩ := h
    rfl
  · obtain ⟨v1, v2, rfl, he, k⟩ := h
    have nd := c_law_like.nd
    refine ⟨_, (pss_cons (ps_if (pt_val (pe_callB call_isiT (by rfl) T.isinstance (by decide +kernel) (pa_cons (pv 1) (pa_cons (pe_tup (pa_cons (pe_bltn (v := .ty "list") (by rfl) T.list (by decide +kernel) rfl) (pa_cons (pe_bltn (v := .ty "tuple") (by rfl) T.tuple (by decide +kernel) rfl) pa_nil))) pa_nil))))
        (pss_cons (ps_if (PW.pt (pw_or (pt_cmpR op_ne (pe_callB call_isi (by rfl) T.isinstance (by decide +kernel) (pa_cons (pv 0) (pa_cons (pe_bltn (v := .ty "list") (by rfl) T.list (by decide +kernel) rfl) pa_nil))) (pe_callB call_isi (by rfl) T.isinstance (by decide +kernel) (pa_cons (pv 1) (pa_cons (pe_bltn (v := .ty "list") (by rfl) T.list (by decide +kernel) rfl) pa_nil))) (nomark _)) (pw_or1 (pt_cmpR op_ne (pe_callB call_isi (by rfl) T.isinstance (by decide +kernel) (pa_cons (pv 0) (pa_cons (pe_bltn (v := .ty "tuple") (by rfl) T.tuple (by decide +kernel) rfl) pa_nil))) (pe_callB call_isi (by rfl) T.isinstance (by decide +kernel) (pa_cons (pv 1) (pa_cons (pe_bltn (v := .ty "tuple") (by rfl) T.tuple (by decide +kernel) rfl) pa_nil))) (nomark _)))))
          (pss_one (ps_ret pe_bl))
          pss_nil)
        (pss_one (ps_ret (pe_and (pe_cmpR op_eq (pe_callB cr_len (by rfl) T.len (by decide +kernel) (pa_cons (pv 0) pa_nil)) (pe_callB cr_len (by rfl) T.len (by decide +kernel) (pa_cons (pv 1) pa_nil)) (nomark _)) (pe_one (pe_callB (cr_all rfl) (by rfl) T.all (by decide +kernel) (pa_cons (pe_lc (own := [("_law_a", 2), ("_law_b", 3)])  rfl nd (RZ.pi_zipA (by rfl) T.zip (pa_cons (pv 0) (pa_cons (pv 1) pa_nil))) (blkOk_by (N := ["_law_told", "_law_due", "_law_a", "_law_b"]) (sc := defScope s_law_like) (by decide +kernel)) (fun _ _ _ _ _ => (pg_tup (n := 2) rfl (pgs_cons (pg_name (i := 2) nd rfl (Or.inl rfl)) (pgs_cons (pg_name (i := 3) nd rfl (Or.inl rfl)) pgs_nil)) : PG _ _ (gTup K 2 _))) (fun _ _ _ _ _ => pts_nil) (fun _ _ _ _ _ => (pe_fn F_law_like (hr.mono (Nat.le_refl _)) (pa_cons (pv 2) (pa_cons (pv 3) pa_nil))))) pa_nil)))))))
        pss_nil)
      (pss_cons (ps_if (PW.pt (pw_or (pt_cmpR op_isN (pv 1) pe_non (nomark _)) (pw_or1 (pt_cmpR op_isN (pv 0) pe_non (nomark _)))))
        (pss_one (ps_ret (pe_and (pe_cmpR op_isN (pv 1) pe_non (nomark _)) (pe_one (pe_cmpR op_isN (pv 0) pe_non (nomark _))))))
        pss_nil)
      (pss_cons (ps_if (PW.pt (pw_or (pt_val (pe_callB call_isiT (by rfl) T.isinstance (by decide +kernel) (pa_cons (pv 0) (pa_cons (pe_tup (pa_cons (pe_bltn (v := .ty "list") (by rfl) T.list (by decide +kernel) rfl) (pa_cons (pe_bltn (v := .ty "tuple") (by rfl) T.tuple (by decide +kernel) rfl) pa_nil))) pa_nil)))) (pw_or1 (pt_cmpR op_ne (pe_callB call_isi (by rfl) T.isinstance (by decide +kernel) (pa_cons (pv 0) (pa_cons (pe_bltn (v := .ty "bool") (by rfl) T.bool (by decide +kernel) rfl) pa_nil))) (pe_callB call_isi (by rfl) T.isinstance (by decide +kernel) (pa_cons (pv 1) (pa_cons (pe_bltn (v := .ty "bool") (by rfl) T.bool (by decide +kernel) rfl) pa_nil))) (nomark _)))))
        (pss_one (ps_ret pe_bl))
        pss_nil)
      (pss_cons (ps_if (PW.pt (pw_or (pt_cmpR op_ne (pe_callB call_isi (by rfl) T.isinstance (by decide +kernel) (pa_cons (pv 0) (pa_cons (pe_bltn (v := .ty "str") (by rfl) T.str (by decide +kernel) rfl) pa_nil))) (pe_callB call_isi (by rfl) T.isinstance (by decide +kernel) (pa_cons (pv 1) (pa_cons (pe_bltn (v := .ty "str") (by rfl) T.str (by decide +kernel) rfl) pa_nil))) (nomark _)) (pw_or1 (pt_cmpR op_ne (pe_callB call_isi (by rfl) T.isinstance (by decide +kernel) (pa_cons (pv 0) (pa_cons (pe_bltn (v := .ty "int") (by rfl) T.int (by decide +kernel) rfl) pa_nil))) (pe_callB call_isi (by rfl) T.isinstance (by decide +kernel) (pa_cons (pv 1) (pa_cons (pe_bltn (v := .ty "int") (by rfl) T.int (by decide +kernel) rfl) pa_nil))) (nomark _)))))
        (pss_one (ps_ret pe_bl))
        pss_nil)
      (pss_one (ps_ret (pe_cmpR op_eq (pv 0) (pv 1) (nomark _)))))))), ?_⟩
    show (_ : TS) _ [some _, some _, none, none] _
    try dsimp only [cxOf, Cx.nox]
    cases he with
    | non n =>
      walk_at "run"
      exact k _ (by walk_at "ext")
    | bl n b =>
      walk_at "run"
      rw [decide_eq_true rfl]
      exact k _ (by walk_at "ext")
    | int n i =>
      walk_at "run"
      rw [decide_eq_true rfl]
      exact k _ (by walk_at "ext")
    | str n z =>
      walk_at "run"
      rw [decide_eq_true rfl]
      exact k _ (by walk_at "ext")
    | @tup n a b xs ys ha hb hl h4 h =>
      walk_at "run"
      refine r_true (len_is (by rw [hl])) ?_
      walk_at "run"
      refine ⟨a, b, xs, ys, rfl, .inr ⟨by walk_at "sq", by walk_at "sq", fun D hD => ?_⟩⟩
      generalize hH : upd H _ _ = H0 at *
      have e0 : Ext [] H H0 := by
        rw [← hH]
        walk_at "ext"
      refine r_lcZT hl (fun i H1 => Ext [] H0 H1 ∧ H1 D = some (.lst ((List.replicate i true).map V.bl))) ⟨Ext.refl.new hD, upd_same⟩ (fun i H1 p => ⟨tup0 (e0.trans p.1) ha, tup0 (e0.trans p.1) hb⟩) ?_ ?_
      · rintro i x y T H1 hx hy ⟨e1, hD1⟩ hT
        walk_at "run"
        refine ⟨rfl, ?_⟩
        walk_at "run"
        have hi : i < xs.length := (List.getElem?_eq_some_iff.mp hx).1
        have e2 : Ext [] H0 (upd H1 T (.tup [x, y])) := e1.new hT
        refine ⟨x, y, rfl, (h i x y hx hy).x0 (e0.trans e2), fun H2 e3 => ?_⟩
        have hD2 : H2 D = some (.lst ((List.replicate i true).map V.bl)) := e3 _ _ (by rw [upd_ne (ne_of_none hD1 hT)]; exact hD1) fun z => nomatch z
        refine ⟨_, hD2, ?_, (e2.trans e3).own hD, ?_⟩
        · rw [List.length_map, List.length_replicate]
          exact Nat.lt_of_le_of_lt (by omega : i ≤ 4000) (by decide)
        · rw [List.replicate_succ', List.map_append]
          exact upd_same
      · rintro H1 ⟨e1, hD1⟩
        walk_at "run"
        refine r_all (bs := List.replicate xs.length true) (.inl (.inl hD1)) ?_
        rw [show (List.replicate xs.length true).all id = true by simp]
        exact k _ (e0.trans e1)
    | @lst n a b xs ys ha hb hl h4 h =>
      walk_at "run"
      refine r_true (len_is (by rw [hl])) ?_
      walk_at "run"
      refine ⟨a, b, xs, ys, rfl, .inl ⟨by walk_at "sq", by walk_at "sq", fun D hD => ?_⟩⟩
      generalize hH : upd H _ _ = H0 at *
      have e0 : Ext [] H H0 := by
        rw [← hH]
        walk_at "ext"
      refine r_lcZL hl (fun i H1 => Ext [] H0 H1 ∧ H1 D = some (.lst ((List.replicate i true).map V.bl))) ⟨Ext.refl.new hD, upd_same⟩ (fun i H1 p => ⟨lst0 (e0.trans p.1) ha, lst0 (e0.trans p.1) hb⟩) ?_ ?_
      · rintro i x y T H1 hx hy ⟨e1, hD1⟩ hT
        walk_at "run"
        refine ⟨rfl, ?_⟩
        walk_at "run"
        have hi : i < xs.length := (List.getElem?_eq_some_iff.mp hx).1
        have e2 : Ext [] H0 (upd H1 T (.tup [x, y])) := e1.new hT
        refine ⟨x, y, rfl, (h i x y hx hy).x0 (e0.trans e2), fun H2 e3 => ?_⟩
        have hD2 : H2 D = some (.lst ((List.replicate i true).map V.bl)) := e3 _ _ (by rw [upd_ne (ne_of_none hD1 hT)]; exact hD1) fun z => nomatch z
        refine ⟨_, hD2, ?_, (e2.trans e3).own hD, ?_⟩
        · rw [List.length_map, List.length_replicate]
          exact Nat.lt_of_le_of_lt (by omega : i ≤ 4000) (by decide)
        · rw [List.replicate_succ', List.map_append]
          exact upd_same
      · rintro H1 ⟨e1, hD1⟩
        walk_at "run"
        refine r_all (bs := List.replicate xs.length true) (.inl (.inl hD1)) ?_
        rw [show (List.replicate xs.length true).all id = true by simp]
        exact k _ (e0.trans e1)
end
end Yk

set_option maxHeartbeats 4000000
namespace Yk
open PySem PySem.Spec PyProof.Rows L2 TL

section
variable {P : Program} {w : World} {K : PySem.W.Frag} {mg : Str → Option Value} {base : Heap} {f : Addr} {fd : FuncData}
def spNumText (K : PySem.W.Frag) : Sp := fun vs H Q _ => ∃ n : Nat, vs = [.int (n : Int)] ∧ n < 2 ^ 1900 ∧ ∀ H', Ext [] H H' → Q (.str (nt n)) H'
abbrev s_number_text : Stmt := top 3
theorem c_number_text : FnScope ["number", "pieces", "rest", "piece"] ["number"] (defScope s_number_text) := ⟨rfl, rfl, rfl, by decide +kernel, rfl, by decide +kernel, by decide +kernel⟩
theorem f_number_text (F : FunD K "number_text" "number_text" (defArgs s_number_text) (defBody s_number_text) (defScope s_number_text) [] [] f fd) (hm : mg "number_text" = some (.ref f)) (T : Bt mg) : Fn P w K mg base 1 "number_text" (spNumText K) := by
  refine fn_def F hm c_number_text (fun vs H Q E h => ?_) (fun _ _ _ _ _ _ us hl => match us, hl with | [_], _ => rfl) (fun cdv A outer s H vs Q E hr h => ?_)
  · obtain ⟨n, rfl, _⟩ := h
    rfl
  · obtain ⟨n, rfl, hn, k⟩ := h
    have nd := c_number_text.nd
    refine ⟨_, (pss_cons (ps_set (i := 1) nd rfl (by first | exact Or.inl rfl | exact Or.inr rfl) (pe_lst pa_nil))
      (pss_cons (ps_set (i := 2) nd rfl (by first | exact Or.inl rfl | exact Or.inr rfl) (pv 0))
      (pss_cons (ps_while PassesOwn.never (pt_cmpR op_ge (pv 2) (pe_op op_pow pe_int pe_int) (nomark _))
        (pss_cons (ps_asg (pe_callB call_divmodW (by rfl) T.divmod (by decide +kernel) (pa_cons (pv 2) (pa_cons (pe_op op_pow pe_int pe_int) pa_nil))) (pg_tup rfl (pgs_cons (pg_name (i := 2) nd rfl (by first | exact Or.inl rfl | exact Or.inr rfl)) (pgs_cons (pg_name (i := 3) nd rfl (by first | exact Or.inl rfl | exact Or.inr rfl)) pgs_nil))))
        (pss_one (ps_expr (pe_bm PySem.F.plainAttrs_list PySem.F.slot_list_append PySem.F.type_list_append mt_append (pv 1) (pa_cons (pe_bm PySem.F.plainAttrs_str PySem.F.slot_str_zfill PySem.F.type_str_zfill mt_zfill (pe_callTy call_str_int (by rfl) T.str (by decide +kernel) (pa_cons (pv 3) pa_nil)) (pa_cons pe_int pa_nil)) pa_nil))))))
      (pss_cons (ps_expr (pe_bm PySem.F.plainAttrs_list PySem.F.slot_list_append PySem.F.type_list_append mt_append (pv 1) (pa_cons (pe_callTy call_str_int (by rfl) T.str (by decide +kernel) (pa_cons (pv 2) pa_nil)) pa_nil)))
      (pss_one (ps_ret (pe_join pe_str (pe_revL (pv 1))))))))), ?_⟩
    show (_ : TS) _ [some _, none, none, none] _
    try dsimp only [cxOf, Cx.nox]
    have e60 : (10 : Int) ^ Int.toNat 60 = (((10 : Nat) ^ (59 + 1) : Nat) : Int) := by decide +kernel
    have dB : ∀ i : Int, CDivP i ((10 : Int) ^ Int.toNat 60) := fun i => ⟨by decide +kernel, PyProof.noPylong_of_log2 (by decide +kernel)⟩
    walk_at "go"
    rename_i p hp
    refine r_while (fun m σ H1 => ∃ (r : Nat) (ps : List Str) (u : Option V), r = m ∧ σ = [some (.int (n : Int)), some (.ref p), some (.int (r : Int)), u] ∧ H1 p = some (.lst (ps.map V.str)) ∧ Ext [] H H1 ∧ r ≤ n ∧ ps.length + (numL r).length ≤ (numL n).length ∧ numL n = numL r ++ (ps.reverse.map tl).flatten)
      n ⟨n, [], none, rfl, rfl, upd_same, Ext.refl.new hp, Nat.le_refl _, by simp, by simp⟩ ?_
    rintro m σ H1 ⟨r, ps, u, rfl, rfl, hl, e1, hr, hlen, hnum⟩
    have ln : (numL n).length ≤ 1900 := numL_le (by decide) (bits_lt hn)
    walk_at "go"
    refine r_dec (fun hge => ?_) (fun hlt => ?_)
    · have hge' : (10 : Nat) ^ (59 + 1) ≤ r := by rw [e60] at hge; exact Int.ofNat_le.mp hge
      have hB : 0 < (10 : Nat) ^ (59 + 1) := Nat.pow_pos (by decide)
      have hq : 0 < r / (10 : Nat) ^ (59 + 1) := Nat.div_pos hge' hB
      have hm : r % (10 : Nat) ^ (59 + 1) < (10 : Nat) ^ (59 + 1) := Nat.mod_lt _ hB
      have hs := numL_split 59 _ _ hq hm
      rw [Nat.div_add_mod'] at hs
      have c1 : (r : Int) / (10 : Int) ^ Int.toNat 60 = ((r / (10 : Nat) ^ (59 + 1) : Nat) : Int) := by rw [e60, Int.natCast_ediv]
      have c2 : (r : Int) % (10 : Int) ^ Int.toNat 60 = ((r % (10 : Nat) ^ (59 + 1) : Nat) : Int) := by rw [e60, Int.natCast_emod]
      refine ⟨fun σ' H' => ∃ (ps' : List Str) (u : Option V), σ' = [some (.int (n : Int)), some (.ref p), some (.int ((r / (10 : Nat) ^ (59 + 1) : Nat) : Int)), u] ∧ H' p = some (.lst (ps'.map V.str)) ∧ Ext [] H H' ∧ ps' = ps ++ [Txt.zfill (nt (r % (10 : Nat) ^ (59 + 1))) ((60 : Nat) : Int)], ?_, ?_⟩
      · rintro σ' H' ⟨ps', u, rfl, h1, h2, rfl⟩
        refine ⟨r / (10 : Nat) ^ (59 + 1), Nat.div_lt_self (by omega) (by decide +kernel), _, _, _, rfl, rfl, h1, h2, Nat.le_trans (Nat.div_le_self _ _) hr, ?_, ?_⟩
        · have h3 : (numL r).length = (numL (r / (10 : Nat) ^ (59 + 1))).length + (padL (59 + 1) (r % (10 : Nat) ^ (59 + 1))).length := by rw [← List.length_append, ← hs]
          have h4 : 0 < (padL (59 + 1) (r % (10 : Nat) ^ (59 + 1))).length := by
            unfold padL
            rw [List.length_append]
            have := List.length_pos_iff.mpr (numL_ne (r % (10 : Nat) ^ (59 + 1)))
            omega
          rw [List.length_append]
          show ps.length + 1 + _ ≤ _
          omega
        · rw [hnum, hs, List.reverse_append, List.map_append, List.flatten_append, ← List.append_assoc]
          congr 1
          congr 1
          show padL (59 + 1) (r % (10 : Nat) ^ (59 + 1)) = tl (Txt.zfill (nt (r % (10 : Nat) ^ (59 + 1))) ((60 : Nat) : Int)) ++ []
          rw [List.append_nil, zfill_tl (numL_le (by decide) hm)]
      · walk_at "go"
        refine ⟨dB _, fun t ht => ?_⟩
        dsimp only
        rw [c1, c2]
        have hl2 : upd H1 t (.tup [.int ((r / (10 : Nat) ^ (59 + 1) : Nat) : Int), .int ((r % (10 : Nat) ^ (59 + 1) : Nat) : Int)]) p = some (.lst (ps.map V.str)) := by rw [upd_ne (ne_of_none hl ht)]; exact hl
        walk_at "go"
        refine ⟨.inl ⟨rfl, _, .inl (.inl hl2)⟩, ?_⟩
        walk_at "go"
        refine ⟨_, rfl, ?_, ?_⟩
        · show (r % (10 : Nat) ^ (59 + 1)).log2 < 1920
          refine Nat.lt_of_lt_of_le (log_lt (b := 200) (by decide) (Nat.lt_of_lt_of_le hm (by decide +kernel))) (by decide)
        refine ⟨rfl, ?_⟩
        walk_at "go"
        refine ⟨_, _, rfl, rfl, by decide, ?_⟩
        walk_at "go"
        refine ⟨p, _, _, rfl, rfl, hl2, ?_, ?_⟩
        · rw [List.length_map]
          exact Nat.lt_of_le_of_lt (by omega : ps.length ≤ 1900) (by decide)
        · refine ⟨_, _, rfl, ?_, (e1.new ht).own hp, rfl⟩
          rw [List.map_append]
          exact upd_same
    · have hlt' : r < (10 : Nat) ^ (59 + 1) := by rw [e60] at hlt; exact Int.ofNat_lt.mp (Int.not_le.mp hlt)
      walk_at "go"
      refine ⟨.inl ⟨rfl, _, .inl (.inl hl)⟩, ?_⟩
      walk_at "go"
      refine ⟨_, rfl, ?_, ?_⟩
      · show r.log2 < 1920
        refine Nat.lt_of_lt_of_le (log_lt (b := 200) (by decide) (Nat.lt_of_lt_of_le hlt' (by decide +kernel))) (by decide)
      walk_at "go"
      refine ⟨p, _, _, rfl, rfl, hl, ?_, ?_⟩
      · rw [List.length_map]
        exact Nat.lt_of_le_of_lt (by omega : ps.length ≤ 1900) (by decide)
      walk_at "go"
      refine ⟨⟨_, rfl⟩, _, rfl, p, _, rfl, lstS, fun d hd => ?_⟩
      have er : (ps.map V.str ++ [V.str (nt r)]).reverse = (nt r :: ps.reverse).map V.str := by
        rw [List.reverse_append, ← List.map_reverse]
        rfl
      have ex := (e1.own (o := .lst (ps.map V.str ++ [V.str (nt r)])) hp).new (o := .lst (ps.map V.str ++ [V.str (nt r)]).reverse) hd
      refine ⟨_, d, nt r :: ps.reverse, rfl, rfl, .inl ?_, ?_, ?_⟩
      · refine .inl (.inl ?_)
        rw [← er]
        exact upd_same
      · rw [len_sum]
        have h5 : ((nt r :: ps.reverse).map tl).flatten = numL n := by rw [hnum, ← tl_nt]; rfl
        rw [h5, show (Str.ofString "").length = 0 by decide +kernel]
        omega
      · have h6 : Txt.join (Str.ofString "") (nt r :: ps.reverse) = nt n := by
          refine str_eq ?_
          rw [show Str.ofString "" = Str.empty by decide +kernel, tl_join0, tl_nt, hnum, ← tl_nt]
          rfl
        rw [h6]
        exact k _ ex
def spIsNum (K : PySem.W.Frag) : Sp := fun vs H Q _ => ∃ n : Int, vs = [.int n] ∧ Q (.bl true) H
abbrev s_is_number : Stmt := top 2
theorem c_is_number : FnScope ["value"] ["value"] (defScope s_is_number) := ⟨rfl, rfl, rfl, by decide +kernel, rfl, by decide +kernel, by decide +kernel⟩
theorem f_is_number (F : FunD K "is_number" "is_number" (defArgs s_is_number) (defBody s_is_number) (defScope s_is_number) [] [] f fd) (hm : mg "is_number" = some (.ref f)) (T : Bt mg) : Fn P w K mg base 1 "is_number" (spIsNum K) := by
  refine fn_def F hm c_is_number (fun vs H Q E h => ?_) (fun _ _ _ _ _ _ us hl => match us, hl with | [_], _ => rfl) (fun cdv A outer s H vs Q E hr h => ?_)
  · obtain ⟨n, rfl, _⟩ := h
    rfl
  · obtain ⟨n, rfl, k⟩ := h
    have nd := c_is_number.nd
    refine ⟨_, (pss_one (ps_ret (pe_and (pe_callB call_isi (by rfl) T.isinstance (by decide +kernel) (pa_cons (pv 0) (pa_cons (pe_bltn (v := .ty "int") (by rfl) T.int (by decide +kernel) rfl) pa_nil))) (pe_one (pe_not (pe_callB call_isi (by rfl) T.isinstance (by decide +kernel) (pa_cons (pv 0) (pa_cons (pe_bltn (v := .ty "bool") (by rfl) T.bool (by decide +kernel) rfl) pa_nil)))))))), ?_⟩
    show (_ : TS) _ [some _] _
    try dsimp only [cxOf, Cx.nox]
    walk_at "run"
    exact k
def spIsAm (K : PySem.W.Frag) : Sp := fun vs H Q _ => ∃ (v : V) (q : Rat), vs = [v] ∧ Am K H v q ∧ 0 ≤ q ∧ Q (.bl true) H
abbrev s_is_amount : Stmt := top 12
theorem c_is_amount : FnScope ["value", "top", "bottom"] ["value"] (defScope s_is_amount) := ⟨rfl, rfl, rfl, by decide +kernel, rfl, by decide +kernel, by decide +kernel⟩
theorem f_is_amount (F : FunD K "is_amount" "is_amount" (defArgs s_is_amount) (defBody s_is_amount) (defScope s_is_amount) [] [] f fd) (hm : mg "is_amount" = some (.ref f)) (T : Bg mg) (Fis_number : Fn P w K mg base 1 "is_number" (spIsNum K)) : Fn P w K mg base 2 "is_amount" (spIsAm K) := by
  refine fn_def F hm c_is_amount (fun vs H Q E h => ?_) (fun _ _ _ _ _ _ us hl => match us, hl with | [_], _ => rfl) (fun cdv A outer s H vs Q E hr h => ?_)
  · obtain ⟨v, q, rfl, _⟩ := h
    rfl
  · obtain ⟨v, q, rfl, ⟨a, rfl, ha⟩, hq, k⟩ := h
    have nd := c_is_amount.nd
    refine ⟨_, (pss_cons (ps_if (PW.pt (pw_or (pt_not (pt_val (pe_callB call_isi (by rfl) T.isinstance (by decide +kernel) (pa_cons (pv 0) (pa_cons (pe_bltn (v := .ty "tuple") (by rfl) T.tuple (by decide +kernel) rfl) pa_nil))))) (pw_or1 (pt_cmpR op_ne (pe_callB cr_len (by rfl) T.len (by decide +kernel) (pa_cons (pv 0) pa_nil)) pe_int (nomark _)))))
        (pss_one (ps_ret pe_bl))
        pss_nil)
      (pss_cons (ps_asg (pv 0) (pg_tup rfl (pgs_cons (pg_name (i := 1) nd rfl (by first | exact Or.inl rfl | exact Or.inr rfl)) (pgs_cons (pg_name (i := 2) nd rfl (by first | exact Or.inl rfl | exact Or.inr rfl)) pgs_nil))))
      (pss_cons (ps_if (PW.pt (pw_or (pt_not (pt_val (pe_fn Fis_number (hr.mono (by decide)) (pa_cons (pv 1) pa_nil)))) (pw_or1 (pt_not (pt_val (pe_fn Fis_number (hr.mono (by decide)) (pa_cons (pv 2) pa_nil)))))))
        (pss_one (ps_ret pe_bl))
        pss_nil)
      (pss_one (ps_ret (pe_and (pe_cmpR op_ge (pv 1) pe_int (nomark _)) (pe_and (pe_cmpR op_ge (pv 2) pe_int (nomark _)) (pe_one (pe_cmpR op_eq (pe_callBfun cr_gcd (by rfl) T.gcd (pa_cons (pv 1) (pa_cons (pv 2) pa_nil))) pe_int (nomark _)))))))))), ?_⟩
    show (_ : TS) _ [some _, none, none] _
    try dsimp only [cxOf, Cx.nox]
    have hn := num_nn hq
    have hd := q.den_pos
    walk_at "run"
    refine ⟨_, rfl, ?_⟩
    walk_at "run"
    refine ⟨_, rfl, ?_⟩
    walk_at "run"
    refine r_true (decide_eq_true hn) ?_
    walk_at "run"
    refine r_true (decide_eq_true (by omega)) ?_
    walk_at "run"
    have hc : Nat.gcd q.num.natAbs (q.den : Int).natAbs = 1 := q.reduced
    rw [hc]
    show Q (.bl (decide (V.int 1 = V.int 1))) H
    rw [decide_eq_true rfl]
    exact k
end
end Yk

set_option maxHeartbeats 4000000
namespace Yk
open PySem PySem.Spec PyProof.Rows L2 TL

section
variable {σ : L2.St} {H : Hp} {Q : VK} {te : TE}
theorem r_js {t : TE} {ts : List TE} {acc : Str} {R : Str → Hp → Prop} (h : t σ H fun x H1 => ∃ y : Str, x = .str y ∧ (acc ++ y).length ≤ sizeLine ∧ tJs ts (acc ++ y) σ H1 R) : tJs (t :: ts) acc σ H R := h
theorem r_M1 {r : V → List V → Hp → VK → Prop} {to : TE} (h : to σ H fun x H1 => (∃ a, x = .str a) ∧ te σ H1 fun y H2 => r x [y] H2 Q) : tM1 r to te σ H Q := h
theorem r_jsN {acc : Str} {R : Str → Hp → Prop} (h : R acc H) : tJs [] acc σ H R := h
theorem r_fmt (h : te σ H fun x H1 => (∃ y : Str, x = .str y ∧ y.length ≤ sizeLine ∧ Q (.str y) H1) ∨ ∃ i : Int, x = .int i ∧ i.natAbs.log2 < 1920 ∧ Q (.str (toString i)) H1) : tFmt te σ H Q := h
theorem e_app (x : Str) : Str.empty ++ x = x := str_eq (by
  show (#[] ++ x.cps).toList = x.cps.toList
  simp)
theorem len_app (x y : Str) : (x ++ y).length = x.length + y.length := by
  show (x.cps ++ y.cps).size = _
  rw [Array.size_append]
  rfl
theorem ntl {n : Nat} (h : n < 2 ^ 1900) : (nt n).length ≤ 1900 := by rw [len_nt]; exact numL_le (by decide) (bits_lt h)
theorem ntl4 {n : Nat} (h : n < 2 ^ 1200) : (nt n).length ≤ 400 := by rw [len_nt]; exact numL_le (by decide) (Nat.lt_of_lt_of_le h (by decide +kernel))
end
section
variable {P : Program} {w : World} {K : PySem.W.Frag} {mg : Str → Option Value} {base : Heap} {f : Addr} {fd : FuncData}
def spReadNum (K : PySem.W.Frag) : Sp := fun vs H Q _ => ∃ (n : Nat) (m : Int), vs = [.str (nt n), .int m] ∧ (nt n).length ≤ 640 ∧ ((nt n).length : Int) ≤ m ∧ Q (.int (n : Int)) H
abbrev s_read_number : Stmt := top 4
theorem c_read_number : FnScope ["text", "most"] ["text", "most"] (defScope s_read_number) := ⟨rfl, rfl, rfl, by decide +kernel, rfl, by decide +kernel, by decide +kernel⟩
theorem f_read_number (F : FunD K "read_number" "read_number" (defArgs s_read_number) (defBody s_read_number) (defScope s_read_number) [] [] f fd) (hm : mg "read_number" = some (.ref f)) (T : Bt mg) : Fn P w K mg base 1 "read_number" (spReadNum K) := by
  refine fn_def F hm c_read_number (fun vs H Q E h => ?_) (fun _ _ _ _ _ _ us hl => match us, hl with | [_, _], _ => rfl) (fun cdv A outer s H vs Q E hr h => ?_)
  · obtain ⟨n, m, rfl, _⟩ := h
    rfl
  · obtain ⟨n, m, rfl, h6, hm, k⟩ := h
    have nd := c_read_number.nd
    refine ⟨_, (pss_cons (ps_if (PW.pt (pw_or (pt_cmpR op_gt (pe_callB call_len_str (by rfl) T.len (by decide +kernel) (pa_cons (pv 0) pa_nil)) (pv 1) (nomark _)) (pw_or (pt_not (pt_val (pe_bm0 PySem.F.plainAttrs_str PySem.F.slot_str_isascii PySem.F.type_str_isascii mt_isascii (pv 0)))) (pw_or1 (pt_not (pt_val (pe_bm0 PySem.F.plainAttrs_str PySem.F.slot_str_isdigit PySem.F.type_str_isdigit mt_isdigit (pv 0))))))))
        (pss_one (ps_ret pe_non))
        pss_nil)
      (pss_cons (ps_if (PW.pt (pw_and (pt_val (pe_bm PySem.F.plainAttrs_str PySem.F.slot_str_startswith PySem.F.type_str_startswith mt_startswith (pv 0) (pa_cons pe_str pa_nil))) (pw_and1 (pt_cmpR op_ne (pv 0) pe_str (nomark _)))))
        (pss_one (ps_ret pe_non))
        pss_nil)
      (pss_one (ps_ret (pe_callTy call_int_str (by rfl) T.int (by decide +kernel) (pa_cons (pv 0) pa_nil)))))), ?_⟩
    show (_ : TS) _ [some _, some _] _
    try dsimp only [cxOf, Cx.nox]
    walk_at "go"
    refine ⟨_, rfl, Nat.le_trans h6 (by decide), ?_⟩
    walk_at "go"
    refine r_false (decide_eq_false (by omega)) ?_
    walk_at "go"
    refine ⟨rfl, _, rfl, rfl, trivial, ?_⟩
    rw [ascii_nt]
    walk_at "run"
    refine ⟨rfl, _, rfl, rfl, trivial, ?_⟩
    rw [digit_nt]
    walk_at "run"
    refine ⟨rfl, ?_⟩
    walk_at "go"
    refine ⟨_, _, rfl, rfl, ?_⟩
    by_cases hn : n = 0
    · subst hn
      walk_at "go"
      refine r_true (by rw [nt_zero]; decide +kernel) ?_
      walk_at "go"
      refine r_false (by rw [nt_zero, decide_eq_true rfl]; rfl) ?_
      walk_at "go"
      exact ⟨_, _, rfl, read_nt (Nat.le_trans h6 (by decide)), h6, k⟩
    · rw [starts_nt (by omega)]
      walk_at "run"
      exact ⟨_, _, rfl, read_nt (Nat.le_trans h6 (by decide)), h6, k⟩
def spAmTxt (K : PySem.W.Frag) : Sp := fun vs H Q _ => ∃ v q, vs = [v] ∧ Am K H v q ∧ 0 ≤ q ∧ Sz 1900 q ∧ ∀ H', Ext [] H H' → Q (.str (amTxt q)) H'
abbrev s_amount_text : Stmt := top 22
theorem c_amount_text : FnScope ["value", "top", "bottom"] ["value"] (defScope s_amount_text) := ⟨rfl, rfl, rfl, by decide +kernel, rfl, by decide +kernel, by decide +kernel⟩
theorem f_amount_text (F : FunD K "amount_text" "amount_text" (defArgs s_amount_text) (defBody s_amount_text) (defScope s_amount_text) [] [] f fd) (hm : mg "amount_text" = some (.ref f)) (Fnumber_text : Fn P w K mg base 1 "number_text" (spNumText K)) : Fn P w K mg base 2 "amount_text" (spAmTxt K) := by
  refine fn_def F hm c_amount_text (fun vs H Q E h => ?_) (fun _ _ _ _ _ _ us hl => match us, hl with | [_], _ => rfl) (fun cdv A outer s H vs Q E hr h => ?_)
  · obtain ⟨v, q, rfl, _⟩ := h
    rfl
  · obtain ⟨v, q, rfl, ⟨a, rfl, ha⟩, hq, hz, k⟩ := h
    have nd := c_amount_text.nd
    refine ⟨_, (pss_cons (ps_asg (pv 0) (pg_tup rfl (pgs_cons (pg_name (i := 1) nd rfl (by first | exact Or.inl rfl | exact Or.inr rfl)) (pgs_cons (pg_name (i := 2) nd rfl (by first | exact Or.inl rfl | exact Or.inr rfl)) pgs_nil))))
      (pss_cons (ps_if (pt_cmpR op_eq (pv 2) pe_int (nomark _))
        (pss_one (ps_ret (pe_fn Fnumber_text (hr.mono (by decide)) (pa_cons (pv 1) pa_nil))))
        pss_nil)
      (pss_one (ps_ret (pe_joined (PJ.cons (pe_fmt (pe_fn Fnumber_text (hr.mono (by decide)) (pa_cons (pv 1) pa_nil))) (PJ.cons pe_str (PJ.cons (pe_fmt (pe_fn Fnumber_text (hr.mono (by decide)) (pa_cons (pv 2) pa_nil))) PJ.nil)))))))), ?_⟩
    show (_ : TS) _ [some _, none, none] _
    try dsimp only [cxOf, Cx.nox]
    have hnum := num_nat hq
    have z1 : q.num.toNat < 2 ^ 1900 := by
      have := hz.1
      rw [hnum] at this
      exact this
    rw [hnum] at ha
    walk_at "go"
    unfold amTxt at k
    by_cases hd : q.den = 1
    · rw [if_pos hd] at k
      refine r_true (len_is (by rw [hd]; rfl)) ?_
      walk_at "go"
      exact ⟨_, rfl, z1, k⟩
    · rw [if_neg hd] at k
      refine r_false (len_not (by omega)) ?_
      walk_at "go"
      refine r_js ?_
      refine r_fmt ?_
      walk_at "go"
      refine ⟨_, rfl, z1, fun H1 e1 => ?_⟩
      refine .inl ⟨_, rfl, Nat.le_trans (ntl z1) (by decide), ?_⟩
      refine ⟨_, rfl, by rw [e_app]; exact Nat.le_trans (ntl z1) (by decide), ?_⟩
      refine r_js ?_
      walk_at "go"
      have l1 : (Str.ofString "/").length = 1 := by decide +kernel
      refine ⟨_, rfl, by rw [e_app, len_app, l1]; exact Nat.le_trans (Nat.add_le_add_right (ntl z1) 1) (by decide), ?_⟩
      refine r_js ?_
      refine r_fmt ?_
      walk_at "go"
      refine ⟨_, rfl, hz.2, fun H2 e2 => ?_⟩
      refine .inl ⟨_, rfl, Nat.le_trans (ntl hz.2) (by decide), ?_⟩
      refine ⟨_, rfl, by rw [e_app, len_app, len_app, l1]; exact Nat.le_trans (Nat.add_le_add (Nat.add_le_add_right (ntl z1) 1) (ntl hz.2)) (by decide), ?_⟩
      refine r_jsN ?_
      rw [e_app]
      exact k _ (e1.trans e2)
abbrev s_law_show : Stmt := top 37
theorem c_law_show : FnScope ["_law_p"] ["_law_p"] (defScope s_law_show) := ⟨rfl, rfl, rfl, by decide +kernel, rfl, by decide +kernel, by decide +kernel⟩
theorem f_law_show (F : FunD K "_law_show" "_law_show" (defArgs s_law_show) (defBody s_law_show) (defScope s_law_show) [] [] f fd) (hm : mg "_law_show" = some (.ref f)) (T : Bt mg) : Fn P w K mg base 1 "_law_show" (spAmTxt K) := by
  refine fn_def F hm c_law_show (fun vs H Q E h => ?_) (fun _ _ _ _ _ _ us hl => match us, hl with | [_], _ => rfl) (fun cdv A outer s H vs Q E hr h => ?_)
  · obtain ⟨v, q, rfl, _⟩ := h
    rfl
  · obtain ⟨v, q, rfl, ⟨a, rfl, ha⟩, hq, hz, k⟩ := h
    have nd := c_law_show.nd
    refine ⟨_, (pss_one (ps_ret (pe_ifExp (pt_cmpR op_eq (pe_ix ix_tup (pv 0) pe_int (fun _ _ => rfl)) pe_int (nomark _)) (pe_callTy call_str_int (by rfl) T.str (by decide +kernel) (pa_cons (pe_ix ix_tup (pv 0) pe_int (fun _ _ => rfl)) pa_nil)) (pe_joined (PJ.cons (pe_fmt (pe_ix ix_tup (pv 0) pe_int (fun _ _ => rfl))) (PJ.cons pe_str (PJ.cons (pe_fmt (pe_ix ix_tup (pv 0) pe_int (fun _ _ => rfl))) PJ.nil))))))), ?_⟩
    show (_ : TS) _ [some _] _
    try dsimp only [cxOf, Cx.nox]
    have hnum := num_nat hq
    have z1 : q.num.toNat < 2 ^ 1900 := by
      have := hz.1
      rw [hnum] at this
      exact this
    rw [hnum] at ha
    walk_at "go"
    unfold amTxt at k
    by_cases hd : q.den = 1
    · rw [if_pos hd] at k
      refine r_true (len_is (by rw [hd]; rfl)) ?_
      walk_at "go"
      exact ⟨_, rfl, Nat.lt_of_lt_of_le (log_lt (by decide) z1) (by decide), k _ Ext.refl⟩
    · rw [if_neg hd] at k
      refine r_false (len_not (by omega)) ?_
      walk_at "go"
      refine r_js ?_
      refine r_fmt ?_
      walk_at "go"
      refine .inr ⟨_, rfl, Nat.lt_of_lt_of_le (log_lt (by decide) z1) (by decide), ?_⟩
      refine ⟨_, rfl, by rw [e_app]; exact Nat.le_trans (ntl z1) (by decide), ?_⟩
      refine r_js ?_
      walk_at "go"
      have l1 : (Str.ofString "/").length = 1 := by decide +kernel
      refine ⟨_, rfl, by rw [e_app, len_app, l1]; exact Nat.le_trans (Nat.add_le_add_right (ntl z1) 1) (by decide), ?_⟩
      refine r_js ?_
      refine r_fmt ?_
      walk_at "go"
      refine .inr ⟨_, rfl, Nat.lt_of_lt_of_le (log_lt (by decide) hz.2) (by decide), ?_⟩
      refine ⟨_, rfl, by rw [e_app, len_app, len_app, l1]; exact Nat.le_trans (Nat.add_le_add (Nat.add_le_add_right (ntl z1) 1) (ntl hz.2)) (by decide), ?_⟩
      refine r_jsN ?_
      rw [e_app]
      exact k _ Ext.refl
def spReadAm (K : PySem.W.Frag) : Sp := fun vs H Q _ => ∃ q, vs = [.str (amTxt q)] ∧ 0 ≤ q ∧ Sz 1200 q ∧ RetAm K H Q q
abbrev s_read_amount : Stmt := top 23
theorem c_read_amount : FnScope ["text", "top_text", "sign", "bottom_text", "top", "bottom"] ["text"] (defScope s_read_amount) := ⟨rfl, rfl, rfl, by decide +kernel, rfl, by decide +kernel, by decide +kernel⟩
theorem f_read_amount (F : FunD K "read_amount" "read_amount" (defArgs s_read_amount) (defBody s_read_amount) (defScope s_read_amount) [] [] f fd) (hm : mg "read_amount" = some (.ref f)) (T : Bt mg) (TD : ∃ t, mg "TEXT_DIGITS" = some (.int 400 t)) (Fread_number : Fn P w K mg base 1 "read_number" (spReadNum K)) (Fis_amount : Fn P w K mg base 2 "is_amount" (spIsAm K)) : Fn P w K mg base 3 "read_amount" (spReadAm K) := by
  refine fn_def F hm c_read_amount (fun vs H Q E h => ?_) (fun _ _ _ _ _ _ us hl => match us, hl with | [_], _ => rfl) (fun cdv A outer s H vs Q E hr h => ?_)
  · obtain ⟨q, rfl, _⟩ := h
    rfl
  · obtain ⟨q, rfl, hq, hz, k⟩ := h
    have nd := c_read_amount.nd
    obtain ⟨td, mt⟩ := TD
    refine ⟨_, (pss_cons (ps_if (pt_not (pt_val (pe_callB call_isi (by rfl) T.isinstance (by decide +kernel) (pa_cons (pv 0) (pa_cons (pe_bltn (v := .ty "str") (by rfl) T.str (by decide +kernel) rfl) pa_nil)))))
        (pss_one (ps_ret pe_non))
        pss_nil)
      (pss_cons (ps_asg (pe_partition (pv 0) pe_str) (pg_tup rfl (pgs_cons (pg_name (i := 1) nd rfl (by first | exact Or.inl rfl | exact Or.inr rfl)) (pgs_cons (pg_name (i := 2) nd rfl (by first | exact Or.inl rfl | exact Or.inr rfl)) (pgs_cons (pg_name (i := 3) nd rfl (by first | exact Or.inl rfl | exact Or.inr rfl)) pgs_nil)))))
      (pss_cons (ps_set (i := 4) nd rfl (by first | exact Or.inl rfl | exact Or.inr rfl) (pe_fn Fread_number (hr.mono (by decide)) (pa_cons (pv 1) (pa_cons (pe_glob (v := .int 400) rfl mt ⟨_, rfl⟩) pa_nil))))
      (pss_cons (ps_if (pt_cmpR op_eq (pv 2) pe_str (nomark _))
        (pss_one (ps_set (i := 5) nd rfl (by first | exact Or.inl rfl | exact Or.inr rfl) pe_int))
        (pss_one (ps_set (i := 5) nd rfl (by first | exact Or.inl rfl | exact Or.inr rfl) (pe_fn Fread_number (hr.mono (by decide)) (pa_cons (pv 3) (pa_cons (pe_glob (v := .int 400) rfl mt ⟨_, rfl⟩) pa_nil))))))
      (pss_cons (ps_if (PW.pt (pw_or (pt_cmpR op_isN (pv 4) pe_non (nomark _)) (pw_or (pt_cmpR op_isN (pv 5) pe_non (nomark _)) (pw_or1 (PW.pt (pw_and (pt_cmpR op_ne (pv 2) pe_str (nomark _)) (pw_and1 (pt_cmpR op_lt (pv 5) pe_int (nomark _)))))))))
        (pss_one (ps_ret pe_non))
        pss_nil)
      (pss_cons (ps_if (pt_not (pt_val (pe_fn Fis_amount (hr.mono (by decide)) (pa_cons (pe_tup (pa_cons (pv 4) (pa_cons (pv 5) pa_nil))) pa_nil))))
        (pss_one (ps_ret pe_non))
        pss_nil)
      (pss_one (ps_ret (pe_tup (pa_cons (pv 4) (pa_cons (pv 5) pa_nil))))))))))), ?_⟩
    show (_ : TS) _ [some _, none, none, none, none, none] _
    try dsimp only [cxOf, Cx.nox]
    have hnum := num_nat hq
    have z1 : q.num.toNat < 2 ^ 1200 := by
      have := hz.1
      rw [hnum] at this
      exact this
    have l1 := ntl4 z1
    have l2 := ntl4 hz.2
    walk_at "run"
    refine r_M1 ?_
    walk_at "go"
    refine ⟨⟨_, rfl⟩, ?_⟩
    walk_at "go"
    unfold amTxt
    by_cases hd : q.den = 1
    · rw [if_pos hd]
      refine ⟨_, _, rfl, rfl, by decide +kernel, Nat.le_trans l1 (by decide), fun p hp => ?_⟩
      rw [part_nt]
      dsimp only
      have ht : ([.int ((q.num.toNat : Nat) : Int), .int 1] : List V) = [.int q.num, .int (q.den : Int)] := by rw [← hnum, hd]; rfl
      walk_at "go"
      refine ⟨_, _, rfl, Nat.le_trans l1 (by decide), by omega, ?_⟩
      walk_at "go"
      refine r_true (show decide (V.str Str.empty = V.str (Str.ofString "")) = true by decide +kernel) ?_
      walk_at "run"
      refine ⟨_, q, rfl, ⟨_, rfl, ?_⟩, hq, ?_⟩
      · rw [← ht]
        exact tupS
      walk_at "run"
      refine k _ _ (by walk_at "ext") ⟨_, rfl, ?_⟩
      rw [← ht]
      exact tupS
    · rw [if_neg hd]
      refine ⟨_, _, rfl, rfl, by decide +kernel, Nat.le_trans (by rw [len_app, len_app]; exact Nat.add_le_add (Nat.add_le_add_right l1 _) l2) (by decide +kernel), fun p hp => ?_⟩
      rw [part_am]
      dsimp only
      have hd0 := q.den_pos
      have ht : ([.int ((q.num.toNat : Nat) : Int), .int (q.den : Int)] : List V) = [.int q.num, .int (q.den : Int)] := by rw [← hnum]
      walk_at "go"
      refine ⟨_, _, rfl, Nat.le_trans l1 (by decide), by omega, ?_⟩
      walk_at "go"
      refine r_false (show decide (V.str (Str.ofString "/") = V.str (Str.ofString "")) = false by decide +kernel) ?_
      walk_at "go"
      refine ⟨_, _, rfl, Nat.le_trans l2 (by decide), by omega, ?_⟩
      walk_at "run"
      try refine r_true (show (!decide (V.str (Str.ofString "/") = V.str (Str.ofString ""))) = true by decide +kernel) ?_
      walk_at "run"
      refine r_false (decide_eq_false (by omega)) ?_
      walk_at "run"
      refine ⟨_, q, rfl, ⟨_, rfl, ?_⟩, hq, ?_⟩
      · rw [← ht]
        exact tupS
      walk_at "run"
      refine k _ _ (by walk_at "ext") ⟨_, rfl, ?_⟩
      rw [← ht]
      exact tupS
end
end Yk

set_option maxHeartbeats 8000000
namespace Yk
open PySem PySem.Spec PyProof.Rows L2 TL

section
variable {P : Program} {w : World} {K : PySem.W.Frag} {mg : Str → Option Value} {base : Heap} {f : Addr} {fd : FuncData}
section
variable {H : Hp} {Q : VK} {E : XK} {v1 v2 v3 : V} {p q r : Rat} {m n : Nat}
theorem sumQ2 (p q : Rat) : sumQ [p, q] = p + q := by
  show 0 + p + q = p + q
  rw [Rat.zero_add]
theorem sumQ3 (p q r : Rat) : sumQ [p, q, r] = p + q + r := by
  show 0 + p + q + r = p + q + r
  rw [Rat.zero_add]
theorem k_plus2 (a1 : Am K H v1 p) (a2 : Am K H v2 q) (z1 : Sz 1900 p) (z2 : Sz 1900 q) (k : ∀ v H', Ext [] H H' → Am K H' v (p + q) → Q v H') : spPlus K [v1, v2] H Q E :=
  ⟨[p, q], 1900, Ams.cons a1 (Ams.cons a2 Ams.nil), fun x hx => by
    rcases List.mem_cons.mp hx with rfl | hx
    · exact z1
    · rw [List.mem_singleton.mp hx]; exact z2, by decide, by simp, fun v H' e a => k v H' e (by rw [sumQ2] at a; exact a)⟩
theorem k_plus3 (a1 : Am K H v1 p) (a2 : Am K H v2 q) (a3 : Am K H v3 r) (z1 : Sz 1300 p) (z2 : Sz 1300 q) (z3 : Sz 1300 r) (k : ∀ v H', Ext [] H H' → Am K H' v (p + q + r) → Q v H') : spPlus K [v1, v2, v3] H Q E :=
  ⟨[p, q, r], 1300, Ams.cons a1 (Ams.cons a2 (Ams.cons a3 Ams.nil)), fun x hx => by
    rcases List.mem_cons.mp hx with rfl | hx
    · exact z1
    · rcases List.mem_cons.mp hx with rfl | hx
      · exact z2
      · rw [List.mem_singleton.mp hx]; exact z3, by decide, by simp, fun v H' e a => k v H' e (by rw [sumQ3] at a; exact a)⟩
theorem k_times (a1 : Am K H v1 p) (a2 : Am K H v2 q) (z1 : Sz 4000 p) (z2 : Sz 4000 q) (k : ∀ v H', Ext [] H H' → Am K H' v (p * q) → Q v H') : spTimes K [v1, v2] H Q E := ⟨_, _, p, q, rfl, a1, a2, z1, z2, k⟩
theorem k_over (a1 : Am K H v1 p) (a2 : Am K H v2 q) (h : 0 < q) (z1 : Sz 4000 p) (z2 : Sz 4000 q) (k : ∀ v H', Ext [] H H' → Am K H' v (p / q) → Q v H') : spOver K [v1, v2] H Q E := ⟨_, _, p, q, rfl, a1, a2, h, z1, z2, k⟩
theorem k_minus (a1 : Am K H v1 p) (a2 : Am K H v2 q) (h : q ≤ p) (z1 : Sz 4000 p) (z2 : Sz 4000 q) (k : ∀ v H', Ext [] H H' → Am K H' v (p - q) → Q v H') : spMinus K [v1, v2] H Q E := ⟨_, _, p, q, rfl, a1, a2, h, z1, z2, k⟩
theorem k_cmp (a1 : Am K H v1 p) (a2 : Am K H v2 q) (z1 : Sz 4000 p) (z2 : Sz 4000 q) (k : Q (.int (cmpQ p q)) H) : spCompare K [v1, v2] H Q E := ⟨_, _, p, q, rfl, a1, a2, z1, z2, k⟩
theorem k_order (a1 : Am K H v1 p) (a2 : Am K H v2 q) (z1 : Sz 4000 p) (z2 : Sz 4000 q) (k : Q (.int (cmpQ p q)) H) : spOrder K [v1, v2] H Q E := ⟨_, _, p, q, rfl, a1, a2, z1, z2, k⟩
theorem k_two {ok : Rat → Rat → Prop} {F : Rat → Rat → Rat} (a1 : Am K H v1 p) (a2 : Am K H v2 q) (z1 : Sz 4000 p) (z2 : Sz 4000 q) (h1 : 0 ≤ p) (h2 : 0 ≤ q) (h3 : ok p q) (k : ∀ v H', Ext [] H H' → Am K H' v (F p q) → Q v H') : sp2 ok F K [v1, v2] H Q E := ⟨_, _, p, q, rfl, a1, a2, z1, z2, h1, h2, h3, k⟩
theorem ams_eqd {a b : Addr} {xs ys : List V} {qs : List Rat} (h1 : SqL K H a xs) (h2 : SqL K H b ys) (h3 : Ams K H xs qs) (h4 : Ams K H ys qs) (h5 : qs.length ≤ 4000) (n : Nat) : Eqd K H (n + 2) (.ref a) (.ref b) :=
  .lst h1 h2 (h3.1.trans h4.1.symm) (by rw [h3.1]; exact h5) fun i x y hx hy => by
    obtain ⟨q, hq, e1⟩ := h3.at_ hx
    exact e1.eqd n (h4.2 i y q hy hq)
theorem k_like {v w : V} {n : Nat} (h : Eqd K H n v w) (k : ∀ H', Ext [] H H' → Q (.bl true) H') : spLike K (n + 1) [v, w] H Q E := ⟨v, w, rfl, h, k⟩
theorem ints_eqd {a b : Addr} {ns : List Int} (h1 : SqL K H a (ns.map V.int)) (h2 : SqL K H b (ns.map V.int)) (h : ns.length ≤ 4000) (n : Nat) : Eqd K H (n + 1) (.ref a) (.ref b) :=
  .lst h1 h2 rfl (by rw [List.length_map]; exact h) fun i x y hx hy => by
    rw [hx] at hy
    cases hy
    rw [List.getElem?_map] at hx
    cases e : ns[i]? with
    | none => rw [e] at hx; cases hx
    | some z => rw [e] at hx; cases hx; exact .int _ _
theorem cmpQ_eq (p q : Rat) : cmpQ p q = cmpQ' p q := rfl
end
def spThree (K : PySem.W.Frag) : Sp := fun vs H Q _ => ∃ v1 v2 v3 p q r, vs = [v1, v2, v3] ∧ Am K H v1 p ∧ Am K H v2 q ∧ Am K H v3 r ∧ 0 ≤ p ∧ 0 ≤ q ∧ 0 ≤ r ∧ Sz 114 p ∧ Sz 114 q ∧ Sz 114 r ∧ ∀ H', Ext [] H H' → Q (.bl true) H'
abbrev s_law_three_so : Stmt := top 46
theorem c_law_three_so : FnScope ["_law_p", "_law_q", "_law_r", "_law_order_here"] ["_law_p", "_law_q", "_law_r"] (defScope s_law_three_so) := ⟨rfl, rfl, rfl, by decide +kernel, rfl, by decide +kernel, by decide +kernel⟩
theorem f_law_three_so (F : FunD K "_law_three_so" "_law_three_so" (defArgs s_law_three_so) (defBody s_law_three_so) (defScope s_law_three_so) [] [] f fd) (hm : mg "_law_three_so" = some (.ref f)) (Fplus : Fn P w K mg base 2 "plus" (spPlus K)) (Ftimes : Fn P w K mg base 2 "times" (spTimes K)) (Fover : Fn P w K mg base 2 "over" (spOver K)) (Fminus : Fn P w K mg base 2 "minus" (spMinus K)) (Fcompare : Fn P w K mg base 1 "compare" (spCompare K)) (F_law_like : Fn P w K mg base 4 "_law_like" (spLike K 4)) (F_law_add : Fn P w K mg base 2 "_law_add" (sp2 (fun _ _ => True) (· + ·) K)) (F_law_mul : Fn P w K mg base 2 "_law_mul" (sp2 (fun _ _ => True) (· * ·) K)) (F_law_div : Fn P w K mg base 2 "_law_div" (sp2 (fun _ q => 0 < q) (· / ·) K)) (F_law_order : Fn P w K mg base 2 "_law_order" (spOrder K)) : Fn P w K mg base 5 "_law_three_so" (spThree K) := by
  refine fn_def F hm c_law_three_so (fun vs H Q E h => ?_) (fun _ _ _ _ _ _ us hl => match us, hl with | [_, _, _], _ => rfl) (fun cdv A outer s H vs Q E hr h => ?_)
  · obtain ⟨v1, v2, v3, p, q, r, rfl, _⟩ := h
    rfl
  · obtain ⟨v1, v2, v3, p, q, r, rfl, h1, h2, h3, p0, q0, r0, z1, z2, z3, k⟩ := h
    have nd := c_law_three_so.nd
    refine ⟨_, (pss_mid (ps_if (pt_not (pt_val (pe_fn F_law_like (hr.mono (by decide)) (pa_cons (pe_lst (pa_cons (pe_fn Ftimes (hr.mono (by decide)) (pa_cons (pv 0) (pa_cons (pe_fn Fplus (hr.mono (by decide)) (pa_cons (pv 1) (pa_cons (pv 2) pa_nil))) pa_nil))) (pa_cons (pe_fn Fplus (hr.mono (by decide)) (pa_cons (pe_fn Ftimes (hr.mono (by decide)) (pa_cons (pv 0) (pa_cons (pv 1) pa_nil))) (pa_cons (pe_fn Ftimes (hr.mono (by decide)) (pa_cons (pv 0) (pa_cons (pv 2) pa_nil))) pa_nil))) pa_nil))) (pa_cons (pe_op op_rep (pe_lst (pa_cons (pe_fn F_law_mul (hr.mono (by decide)) (pa_cons (pv 0) (pa_cons (pe_fn F_law_add (hr.mono (by decide)) (pa_cons (pv 1) (pa_cons (pv 2) pa_nil))) pa_nil))) pa_nil)) pe_int) pa_nil)))))
        (pss_one (ps_ret pe_bl))
        pss_nil)
      (pss_mid (ps_if (pt_not (pt_val (pe_fn F_law_like (hr.mono (by decide)) (pa_cons (pe_lst (pa_cons (pe_fn Fminus (hr.mono (by decide)) (pa_cons (pe_fn Fplus (hr.mono (by decide)) (pa_cons (pv 0) (pa_cons (pv 1) pa_nil))) (pa_cons (pv 1) pa_nil))) (pa_cons (pe_fn Fminus (hr.mono (by decide)) (pa_cons (pe_fn Fplus (hr.mono (by decide)) (pa_cons (pv 0) (pa_cons (pv 1) (pa_cons (pv 2) pa_nil)))) (pa_cons (pe_fn Fplus (hr.mono (by decide)) (pa_cons (pv 2) (pa_cons (pv 1) pa_nil))) pa_nil))) (pa_cons (pe_fn Fminus (hr.mono (by decide)) (pa_cons (pv 0) (pa_cons (pv 0) pa_nil))) pa_nil)))) (pa_cons (pe_lst (pa_cons (pv 0) (pa_cons (pv 0) (pa_cons (pe_tup (pa_cons pe_int (pa_cons pe_int pa_nil))) pa_nil)))) pa_nil)))))
        (pss_one (ps_ret pe_bl))
        pss_nil)
      (pss_mid (ps_if (PW.pt (pw_and (pt_cmpR op_gt (pe_ix ix_tup (pv 1) pe_int (fun _ _ => rfl)) pe_int (nomark _)) (pw_and1 (pt_not (pt_val (pe_fn F_law_like (hr.mono (by decide)) (pa_cons (pe_lst (pa_cons (pe_fn Fover (hr.mono (by decide)) (pa_cons (pe_fn Ftimes (hr.mono (by decide)) (pa_cons (pv 0) (pa_cons (pv 1) pa_nil))) (pa_cons (pv 1) pa_nil))) (pa_cons (pe_fn Ftimes (hr.mono (by decide)) (pa_cons (pe_fn Fover (hr.mono (by decide)) (pa_cons (pv 0) (pa_cons (pv 1) pa_nil))) (pa_cons (pv 1) pa_nil))) (pa_cons (pe_fn Fover (hr.mono (by decide)) (pa_cons (pv 1) (pa_cons (pv 1) pa_nil))) (pa_cons (pe_fn Fover (hr.mono (by decide)) (pa_cons (pv 0) (pa_cons (pv 1) pa_nil))) pa_nil))))) (pa_cons (pe_lst (pa_cons (pv 0) (pa_cons (pv 0) (pa_cons (pe_tup (pa_cons pe_int (pa_cons pe_int pa_nil))) (pa_cons (pe_fn F_law_div (hr.mono (by decide)) (pa_cons (pv 0) (pa_cons (pv 1) pa_nil))) pa_nil))))) pa_nil))))))))
        (pss_one (ps_ret pe_bl))
        pss_nil)
      (pss_cons (ps_set (i := 3) nd rfl (by first | exact Or.inl rfl | exact Or.inr rfl) (pe_fn F_law_order (hr.mono (by decide)) (pa_cons (pv 0) (pa_cons (pv 1) pa_nil))))
      (pss_mid (ps_if (pt_not (pt_val (pe_fn F_law_like (hr.mono (by decide)) (pa_cons (pe_lst (pa_cons (pe_fn Fcompare (hr.mono (by decide)) (pa_cons (pv 0) (pa_cons (pv 1) pa_nil))) (pa_cons (pe_fn Fcompare (hr.mono (by decide)) (pa_cons (pe_fn Fplus (hr.mono (by decide)) (pa_cons (pv 0) (pa_cons (pv 2) pa_nil))) (pa_cons (pe_fn Fplus (hr.mono (by decide)) (pa_cons (pv 1) (pa_cons (pv 2) pa_nil))) pa_nil))) (pa_cons (pe_fn Fcompare (hr.mono (by decide)) (pa_cons (pe_fn Fplus (hr.mono (by decide)) (pa_cons (pv 0) (pa_cons (pv 2) pa_nil))) (pa_cons (pv 0) pa_nil))) pa_nil)))) (pa_cons (pe_lst (pa_cons (pv 3) (pa_cons (pv 3) (pa_cons (pe_ifExp (pt_cmpR op_gt (pe_ix ix_tup (pv 2) pe_int (fun _ _ => rfl)) pe_int (nomark _)) pe_int pe_int) pa_nil)))) pa_nil)))))
        (pss_one (ps_ret pe_bl))
        pss_nil)
      (pss_one (ps_ret (pe_fn F_law_like (hr.mono (by decide)) (pa_cons (pe_fn Fcompare (hr.mono (by decide)) (pa_cons (pe_fn Ftimes (hr.mono (by decide)) (pa_cons (pv 0) (pa_cons (pv 2) pa_nil))) (pa_cons (pe_fn Ftimes (hr.mono (by decide)) (pa_cons (pv 2) (pa_cons (pv 1) pa_nil))) pa_nil))) (pa_cons (pe_ifExp (pt_cmpR op_gt (pe_ix ix_tup (pv 2) pe_int (fun _ _ => rfl)) pe_int (nomark _)) (pv 3) pe_int) pa_nil)))))))))), ?_⟩
    show (_ : TS) _ [some _, some _, some _, none] _
    try dsimp only [cxOf, Cx.nox]
    have y1 : Sz 1300 p := z1.mono (by decide)
    have y2 : Sz 1300 q := z2.mono (by decide)
    have y3 : Sz 1300 r := z3.mono (by decide)
    have x1 : Sz 1900 p := z1.mono (by decide)
    have x2 : Sz 1900 q := z2.mono (by decide)
    have x3 : Sz 1900 r := z3.mono (by decide)
    have w1 : Sz 4000 p := z1.mono (by decide)
    have w2 : Sz 4000 q := z2.mono (by decide)
    have w3 : Sz 4000 r := z3.mono (by decide)
    have s1 : Sz 4000 (q + r) := (sz_add z2 z3).mono (by decide)
    have s2 : Sz 1900 (p * q) := (sz_mul z1 z2).mono (by decide)
    have s3 : Sz 1900 (p * r) := (sz_mul z1 z3).mono (by decide)
    have s4 : Sz 4000 (p + q) := (sz_add z1 z2).mono (by decide)
    have s5 : Sz 4000 (r + q) := (sz_add z3 z2).mono (by decide)
    have s6 : Sz 4000 (p + q + r) := (sz_add (sz_add z1 z2) z3).mono (by decide)
    have s7 : Sz 4000 (p * q) := (sz_mul z1 z2).mono (by decide)
    have s8 : Sz 4000 (p * r) := (sz_mul z1 z3).mono (by decide)
    have s9 : Sz 4000 (r * q) := (sz_mul z3 z2).mono (by decide)
    have s10 : Sz 4000 (p + r) := (sz_add z1 z3).mono (by decide)
    refine r_mid (fun σ' H' => σ' = [some v1, some v2, some v3, none] ∧ Ext [] H H') ?_ ?_
    · walk_at "go"
      refine k_plus2 h2 h3 x2 x3 fun u1 H1 e1 b1 => ?_
      walk_at "go"
      refine k_times (by walk_at "am") b1 w1 s1 fun u2 H2 e2 b2 => ?_
      walk_at "go"
      refine k_times (by walk_at "am") (by walk_at "am") w1 w2 fun u3 H3 e3 b3 => ?_
      walk_at "go"
      refine k_times (by walk_at "am") (by walk_at "am") w1 w3 fun u4 H4 e4 b4 => ?_
      walk_at "go"
      refine k_plus2 (by walk_at "am") b4 s2 s3 fun u5 H5 e5 b5 => ?_
      rw [r_dist] at b5
      walk_at "go"
      refine k_two (by walk_at "am") (by walk_at "am") w2 w3 q0 r0 trivial fun u6 H6 e6 b6 => ?_
      walk_at "go"
      refine k_two (by walk_at "am") b6 w1 s1 p0 (add_nn q0 r0) trivial fun u7 H7 e7 b7 => ?_
      walk_at "go"
      refine ⟨_, 2, _, rfl, rfl, upd_same, by decide, by decide, by show 2 ≤ sizeLine; decide, fun d hd => ?_⟩
      walk_at "go"
      refine k_like (ams_eqd (xs := [u2, u5]) (ys := [u7, u7]) (qs := [p * (q + r), p * (q + r)]) (by walk_at "sq") (.inl (.inl upd_same)) (Ams.cons (by walk_at "am") (Ams.cons (by walk_at "am") Ams.nil)) (Ams.cons (by walk_at "am") (Ams.cons (by walk_at "am") Ams.nil)) (by simp) 1) fun H8 e8 => ?_
      walk_at "run"
      exact ⟨rfl, by walk_at "ext"⟩
    · rintro σ' H0 ⟨rfl, e0⟩
      refine r_mid (fun σ' H' => σ' = [some v1, some v2, some v3, none] ∧ Ext [] H0 H') ?_ ?_
      · walk_at "go"
        refine k_plus2 (by walk_at "am") (by walk_at "am") x1 x2 fun u1 H1 e1 b1 => ?_
        walk_at "go"
        refine k_minus b1 (by walk_at "am") (le1 p0) s4 w2 fun u2 H2 e2 b2 => ?_
        rw [r_sub1] at b2
        walk_at "go"
        refine k_plus3 (by walk_at "am") (by walk_at "am") (by walk_at "am") y1 y2 y3 fun u3 H3 e3 b3 => ?_
        walk_at "go"
        refine k_plus2 (by walk_at "am") (by walk_at "am") x3 x2 fun u4 H4 e4 b4 => ?_
        walk_at "go"
        refine k_minus (by walk_at "am") b4 (le2 p0) s6 s5 fun u5 H5 e5 b5 => ?_
        rw [r_sub2] at b5
        walk_at "go"
        refine k_minus (by walk_at "am") (by walk_at "am") Rat.le_refl w1 w1 fun u6 H6 e6 b6 => ?_
        rw [r_sub3] at b6
        walk_at "go"
        refine k_like (ams_eqd (qs := [p, p, 0]) (by walk_at "sq") (by walk_at "sq") (Ams.cons (by walk_at "am") (Ams.cons (by walk_at "am") (Ams.cons (by walk_at "am") Ams.nil))) (Ams.cons (by walk_at "am") (Ams.cons (by walk_at "am") (Ams.cons ⟨_, rfl, by walk_at "sq"⟩ Ams.nil))) (by simp) 1) fun H8 e8 => ?_
        walk_at "run"
        exact ⟨rfl, by walk_at "ext"⟩
      · rintro σ' H9 ⟨rfl, e9⟩
        refine r_mid (fun σ' H' => σ' = [some v1, some v2, some v3, none] ∧ Ext [] H0 H') ?_ ?_
        · obtain ⟨a2, rfl, t2⟩ := h2
          have h2 : Am K H (.ref a2) q := ⟨a2, rfl, t2⟩
          walk_at "go"
          refine r_dec (fun hpos => ?_) (fun hpos => ?_)
          · have qp : 0 < q := (num_pos_iff q0).mp hpos
            have s11 : Sz 4000 (p / q) := (sz_div z1 z2 qp).mono (by decide)
            walk_at "go"
            refine k_times (by walk_at "am") (by walk_at "am") w1 w2 fun u1 H1 e1 b1 => ?_
            walk_at "go"
            refine k_over b1 (by walk_at "am") qp s7 w2 fun u2 H2 e2 b2 => ?_
            rw [r_div1 qp] at b2
            walk_at "go"
            refine k_over (by walk_at "am") (by walk_at "am") qp w1 w2 fun u3 H3 e3 b3 => ?_
            walk_at "go"
            refine k_times b3 (by walk_at "am") s11 w2 fun u4 H4 e4 b4 => ?_
            rw [r_div2 qp] at b4
            walk_at "go"
            refine k_over (by walk_at "am") (by walk_at "am") qp w2 w2 fun u5 H5 e5 b5 => ?_
            rw [r_div3 qp] at b5
            walk_at "go"
            refine k_over (by walk_at "am") (by walk_at "am") qp w1 w2 fun u6 H6 e6 b6 => ?_
            walk_at "go"
            refine k_two (by walk_at "am") (by walk_at "am") w1 w2 p0 q0 qp fun u7 H7 e7 b7 => ?_
            walk_at "go"
            refine k_like (ams_eqd (qs := [p, p, 1, p / q]) (by walk_at "sq") (by walk_at "sq") (Ams.cons (by walk_at "am") (Ams.cons (by walk_at "am") (Ams.cons (by walk_at "am") (Ams.cons (by walk_at "am") Ams.nil)))) (Ams.cons (by walk_at "am") (Ams.cons (by walk_at "am") (Ams.cons ⟨_, rfl, by walk_at "sq"⟩ (Ams.cons (by walk_at "am") Ams.nil)))) (by simp) 1) fun H8 e8 => ?_
            walk_at "run"
            exact ⟨rfl, e9.trans (by walk_at "ext")⟩
          · walk_at "run"
            exact ⟨rfl, e9⟩
        · rintro σ' H10 ⟨rfl, e10⟩
          obtain ⟨a3, rfl, t3⟩ := h3
          have h3 : Am K H (.ref a3) r := ⟨a3, rfl, t3⟩
          walk_at "go"
          refine k_order (by walk_at "am") (by walk_at "am") w1 w2 ?_
          walk_at "go"
          refine r_mid (fun σ' H' => σ' = [some v1, some v2, some (.ref a3), some (.int (cmpQ p q))] ∧ Ext [] H10 H') ?_ ?_
          · walk_at "go"
            refine k_cmp (by walk_at "am") (by walk_at "am") w1 w2 ?_
            walk_at "go"
            refine k_plus2 (by walk_at "am") (by walk_at "am") x1 x3 fun u1 H1 e1 b1 => ?_
            walk_at "go"
            refine k_plus2 (by walk_at "am") (by walk_at "am") x2 x3 fun u2 H2 e2 b2 => ?_
            walk_at "go"
            refine k_cmp (by walk_at "am") b2 s10 s1 ?_
            walk_at "go"
            refine k_plus2 (by walk_at "am") (by walk_at "am") x1 x3 fun u3 H3 e3 b3 => ?_
            walk_at "go"
            refine k_cmp b3 (by walk_at "am") s10 w1 ?_
            rw [show cmpQ (p + r) (q + r) = cmpQ p q from cmp_add p q r, show cmpQ (p + r) p = if 0 < r then 1 else 0 from cmp_more p r r0]
            walk_at "go"
            refine r_dec (fun hpos => ?_) (fun hpos => ?_)
            · rw [if_pos ((num_pos_iff r0).mp hpos)]
              walk_at "go"
              refine k_like (ints_eqd (ns := [cmpQ p q, cmpQ p q, 1]) (by walk_at "sq") (by walk_at "sq") (by simp) 2) fun H8 e8 => ?_
              walk_at "run"
              exact ⟨rfl, by walk_at "ext"⟩
            · rw [if_neg fun z => hpos ((num_pos_iff r0).mpr z)]
              walk_at "go"
              refine k_like (ints_eqd (ns := [cmpQ p q, cmpQ p q, 0]) (by walk_at "sq") (by walk_at "sq") (by simp) 2) fun H8 e8 => ?_
              walk_at "run"
              exact ⟨rfl, by walk_at "ext"⟩
          · rintro σ' H11 ⟨rfl, e11⟩
            walk_at "go"
            refine k_times (by walk_at "am") (by walk_at "am") w1 w3 fun u1 H1 e1 b1 => ?_
            walk_at "go"
            refine k_times (by walk_at "am") (by walk_at "am") w3 w2 fun u2 H2 e2 b2 => ?_
            walk_at "go"
            refine k_cmp (by walk_at "am") b2 s8 s9 ?_
            rw [show cmpQ (p * r) (r * q) = if 0 < r then cmpQ p q else 0 from cmp_mul p q r r0]
            walk_at "go"
            have ee : Ext [] H H2 := ((e0.trans (e10.trans e11)).trans e1).trans e2
            refine r_dec (fun hpos => ?_) (fun hpos => ?_)
            · rw [if_pos ((num_pos_iff r0).mp hpos)]
              walk_at "go"
              exact k_like (.int 3 _) fun H8 e8 => k _ (ee.trans e8)
            · rw [if_neg fun z => hpos ((num_pos_iff r0).mpr z)]
              walk_at "go"
              exact k_like (.int 3 _) fun H8 e8 => k _ (ee.trans e8)
end
end Yk

set_option maxHeartbeats 8000000
namespace Yk
open PySem PySem.Spec PyProof.Rows L2 TL

section
variable {P : Program} {w : World} {K : PySem.W.Frag} {mg : Str → Option Value} {base : Heap} {f : Addr} {fd : FuncData}
/-! the row of a turn -/
theorem Am.b2 {H H1 : Hp} {b : Bag} {v : V} {q : Rat} (e : Ext [b.a] H H1) (hb : BagAt K H b) (h : Am K H v q) : Am K H1 v q := h.b hb e
def Good (qs : List Rat) : Prop := 3 ≤ qs.length ∧ qs.length ≤ 6 ∧ ∀ q ∈ qs, 0 ≤ q ∧ Sz 114 q
structure RowAt (K : PySem.W.Frag) (H0 H : Hp) (b : Bag) (row : Addr) (xs : List V) (qs : List Rat) : Prop where
  at_ : H row = some (.lst xs)
  ams : Ams K H xs qs
  good : Good qs
  bag : BagAt K H b
  new : H0 row = none
  bag0 : BagAt K H0 b
  ext : Ext [b.a] H0 H
theorem RowAt.ne {H0 H : Hp} {b : Bag} {row : Addr} {xs : List V} {qs : List Rat} (R : RowAt K H0 H b row xs qs) : row ≠ b.a := fun z => R.bag0.ne R.new z.symm
theorem RowAt.x0 {H0 H H1 : Hp} {b : Bag} {row : Addr} {xs : List V} {qs : List Rat} (e : Ext [] H H1) (R : RowAt K H0 H b row xs qs) : RowAt K H0 H1 b row xs qs :=
  ⟨e _ _ R.at_ (fun z => nomatch z), R.ams.x0 e, R.good, R.bag.x0 e, R.new, R.bag0, R.ext.trans e.of0⟩
theorem RowAt.b {H0 H H1 : Hp} {b : Bag} {row : Addr} {xs : List V} {qs : List Rat} (e : Ext [b.a] H H1) (hb : BagAt K H1 b) (R : RowAt K H0 H b row xs qs) : RowAt K H0 H1 b row xs qs :=
  ⟨e _ _ R.at_ (by simpa using R.ne), R.ams.b R.bag e, R.good, hb, R.new, R.bag0, R.ext.trans e⟩
theorem RowAt.sq {H0 H : Hp} {b : Bag} {row : Addr} {xs : List V} {qs : List Rat} (R : RowAt K H0 H b row xs qs) : SqL K H row xs := .inl (.inl R.at_)
theorem Ams.set {H : Hp} {xs : List V} {qs : List Rat} (h : Ams K H xs qs) {j : Nat} {v : V} {q : Rat} (hv : Am K H v q) : Ams K H (xs.set j v) (qs.set j q) := by
  refine ⟨by rw [List.length_set, List.length_set, h.1], fun i x y a b => ?_⟩
  by_cases hj : j = i
  · subst hj
    rw [List.getElem?_set_self'] at a b
    cases ex : xs[j]? with
    | none => rw [ex] at a; cases a
    | some x0 =>
      cases eq : qs[j]? with
      | none => rw [eq] at b; cases b
      | some q0 =>
        rw [ex] at a
        rw [eq] at b
        cases a
        cases b
        exact hv
  · rw [List.getElem?_set_ne hj] at a b
    exact h.2 i x y a b
theorem lmax_eq (m q : Rat) : lmax m q = if m < q then q else m := by
  unfold lmax
  by_cases h1 : q < m
  · rw [if_pos h1, if_neg (by grind)]
  · rw [if_neg h1]
    by_cases h2 : m < q
    · rw [if_pos h2]
    · rw [if_neg h2]; grind
theorem minQ_spec : ∀ (qs : List Rat) (p : Rat), minQ p qs ∈ p :: qs ∧ ∀ x ∈ p :: qs, minQ p qs ≤ x
  | [], p => ⟨List.mem_cons_self, fun x hx => by rw [List.mem_singleton.mp hx]; exact Rat.le_refl⟩
  | q :: r, p => by
    obtain ⟨h1, h2⟩ := minQ_spec r (if q < p then q else p)
    have e : minQ p (q :: r) = minQ (if q < p then q else p) r := rfl
    rw [e]
    have h3 := h2 _ List.mem_cons_self
    refine ⟨?_, fun x hx => ?_⟩
    · rcases List.mem_cons.mp h1 with h | h
      · rw [h]; split <;> simp
      · exact List.mem_cons_of_mem _ (List.mem_cons_of_mem _ h)
    · rcases List.mem_cons.mp hx with rfl | hx
      · refine Rat.le_trans h3 ?_
        split
        · grind
        · exact Rat.le_refl
      · rcases List.mem_cons.mp hx with rfl | hx
        · refine Rat.le_trans h3 ?_
          split
          · exact Rat.le_refl
          · grind
        · exact h2 x (List.mem_cons_of_mem _ hx)
theorem maxQ_spec : ∀ (qs : List Rat) (p : Rat), maxQ p qs ∈ p :: qs ∧ ∀ x ∈ p :: qs, x ≤ maxQ p qs
  | [], p => ⟨List.mem_cons_self, fun x hx => by rw [List.mem_singleton.mp hx]; exact Rat.le_refl⟩
  | q :: r, p => by
    obtain ⟨h1, h2⟩ := maxQ_spec r (if p < q then q else p)
    have e : maxQ p (q :: r) = maxQ (if p < q then q else p) r := rfl
    rw [e]
    have h3 := h2 _ List.mem_cons_self
    refine ⟨?_, fun x hx => ?_⟩
    · rcases List.mem_cons.mp h1 with h | h
      · rw [h]; split <;> simp
      · exact List.mem_cons_of_mem _ (List.mem_cons_of_mem _ h)
    · rcases List.mem_cons.mp hx with rfl | hx
      · refine Rat.le_trans ?_ h3
        split
        · grind
        · exact Rat.le_refl
      · rcases List.mem_cons.mp hx with rfl | hx
        · refine Rat.le_trans ?_ h3
          split
          · exact Rat.le_refl
          · grind
        · exact h2 x (List.mem_cons_of_mem _ hx)
theorem minQ_perm {p q : Rat} {l m : List Rat} (h : (p :: l).Perm (q :: m)) : minQ p l = minQ q m := by
  obtain ⟨a1, a2⟩ := minQ_spec l p
  obtain ⟨b1, b2⟩ := minQ_spec m q
  exact Rat.le_antisymm (a2 _ (h.symm.subset b1)) (b2 _ (h.subset a1))
theorem maxQ_perm {p q : Rat} {l m : List Rat} (h : (p :: l).Perm (q :: m)) : maxQ p l = maxQ q m := by
  obtain ⟨a1, a2⟩ := maxQ_spec l p
  obtain ⟨b1, b2⟩ := maxQ_spec m q
  exact Rat.le_antisymm (b2 _ (h.subset a1)) (a2 _ (h.symm.subset b1))
theorem foldl_lmin (q : Rat) (l : List Rat) : (q :: l).foldl lmin q = minQ q l := by
  show l.foldl lmin (lmin q q) = minQ q l
  have e : lmin q q = q := by unfold lmin; split <;> rfl
  rw [e]
  rfl
theorem foldl_lmax (q : Rat) (l : List Rat) : (q :: l).foldl lmax q = maxQ q l := by
  show l.foldl lmax (lmax q q) = maxQ q l
  have e : lmax q q = q := by unfold lmax; split <;> rfl
  rw [e]
  have h : ∀ (l : List Rat) (z : Rat), l.foldl lmax z = l.foldl (fun m q => if m < q then q else m) z := by
    intro l
    induction l with
    | nil => intro z; rfl
    | cons a r ih =>
      intro z
      show r.foldl lmax (lmax z a) = r.foldl _ (if z < a then a else z)
      rw [lmax_eq, ih]
  exact h l q
/-- from the same things in another order, the same row -/
theorem ams_perm {H : Hp} {xs ys : List V} (p : ys.Perm xs) : ∀ {qs : List Rat}, Ams K H xs qs → ∃ rs, Ams K H ys rs ∧ rs.Perm qs := by
  induction p with
  | nil => exact fun {qs} h => ⟨qs, h, List.Perm.refl _⟩
  | cons x _ ih =>
    intro qs h
    cases qs with
    | nil => exact absurd h.1 (by simp)
    | cons q r =>
      have h1 : Ams K H _ r := ⟨by simpa using h.1, fun i v u a b => h.2 (i + 1) v u (by simpa using a) (by simpa using b)⟩
      obtain ⟨rs, a, b⟩ := ih h1
      exact ⟨q :: rs, Ams.cons (h.2 0 x q rfl rfl) a, b.cons q⟩
  | swap x y l =>
    intro qs h
    match qs, h with
    | [], h => exact absurd h.1 (by simp)
    | [_], h => exact absurd h.1 (by simp)
    | q1 :: q2 :: r, h =>
      have h1 : Ams K H l r := ⟨by simpa using h.1, fun i v u a b => h.2 (i + 2) v u (by simpa using a) (by simpa using b)⟩
      exact ⟨q2 :: q1 :: r, Ams.cons (h.2 1 _ q2 rfl rfl) (Ams.cons (h.2 0 _ q1 rfl rfl) h1), List.Perm.swap q1 q2 r⟩
  | trans _ _ ih1 ih2 =>
    intro qs h
    obtain ⟨rs, a, b⟩ := ih2 h
    obtain ⟨ts, c, d⟩ := ih1 a
    exact ⟨ts, c, d.trans b⟩
theorem Good.perm {qs rs : List Rat} (g : Good qs) (p : rs.Perm qs) : Good rs := ⟨by rw [p.length_eq]; exact g.1, by rw [p.length_eq]; exact g.2.1, fun q hq => g.2.2 q (p.subset hq)⟩
theorem k_amt {H : Hp} {b : Bag} {Q : VK} {E : XK} (hb : BagAt K H b) (k : ∀ v q H', Am K H' v q → 0 ≤ q → Sz 114 q → BagAt K H' b → Ext [b.a] H H' → Q v H') : spAmt K [.ref b.a] H Q E := ⟨b, rfl, hb, k⟩
theorem k_draw {H : Hp} {b : Bag} {n : Int} {Q : VK} {E : XK} (hb : BagAt K H b) (h0 : 0 < n) (h1 : n < 2 ^ 400) (k : ∀ (x : Int) H', 0 ≤ x → x < n → BagAt K H' b → Ext [b.a] H H' → Q (.int x) H') : spDraw K [.ref b.a, .int n] H Q E := ⟨b, n, rfl, h0, h1, hb, k⟩
end
end Yk

set_option maxHeartbeats 8000000
namespace Yk
open PySem PySem.Spec PyProof.Rows L2 TL

section
variable {P : Program} {w : World} {K : PySem.W.Frag} {mg : Str → Option Value} {base : Heap} {f : Addr} {fd : FuncData}
theorem fold_all {Pp : Rat → Prop} {g : Rat → Rat → Rat} (hg : ∀ a b, Pp a → Pp b → Pp (g a b)) : ∀ (qs : List Rat) (z : Rat), Pp z → (∀ q ∈ qs, Pp q) → Pp (qs.foldl g z)
  | [], z, h, _ => h
  | q :: r, z, h, a => fold_all hg r (g z q) (hg z q h (a q List.mem_cons_self)) fun x hx => a x (List.mem_cons_of_mem _ hx)
theorem fold_prod : ∀ (qs : List Rat) (z : Rat) (m : Nat), 0 ≤ z → Sz m z → (∀ q ∈ qs, 0 ≤ q ∧ Sz 114 q) → 0 ≤ qs.foldl (· * ·) z ∧ Sz (m + 114 * qs.length) (qs.foldl (· * ·) z)
  | [], z, m, h0, h, _ => ⟨h0, by simpa using h⟩
  | q :: r, z, m, h0, h, a => by
    have h1 := a q List.mem_cons_self
    have h2 := fold_prod r (z * q) (m + 114) (mul_nn h0 h1.1) (sz_mul h h1.2) fun x hx => a x (List.mem_cons_of_mem _ hx)
    refine ⟨h2.1, h2.2.mono ?_⟩
    rw [List.length_cons]
    omega
theorem fold_sum : ∀ (qs : List Rat) (z : Rat) (m : Nat), 0 ≤ z → Sz m z → (∀ q ∈ qs, 0 ≤ q ∧ Sz 114 q) → 0 ≤ qs.foldl (· + ·) z ∧ Sz (m + 115 * qs.length) (qs.foldl (· + ·) z)
  | [], z, m, h0, h, _ => ⟨h0, by simpa using h⟩
  | q :: r, z, m, h0, h, a => by
    have h1 := a q List.mem_cons_self
    have h2 := fold_sum r (z + q) (m + 114 + 1) (add_nn h0 h1.1) (sz_add h h1.2) fun x hx => a x (List.mem_cons_of_mem _ hx)
    refine ⟨h2.1, h2.2.mono ?_⟩
    rw [List.length_cons]
    omega
theorem three_eqd {H : Hp} {a b : Addr} {z : Str} {v w : V} {q : Rat} (h1 : SqL K H a [.str z, v, .bl true]) (h2 : SqL K H b [.str z, w, .bl true]) (e1 : Am K H v q) (e2 : Am K H w q) : Eqd K H 3 (.ref a) (.ref b) :=
  .lst h1 h2 rfl (show 3 ≤ 4000 by decide) fun i x y hx hy => by
    match i, hx, hy with
    | 0, hx, hy => cases hx; cases hy; exact .str _ _
    | 1, hx, hy => cases hx; cases hy; exact e1.eqd 1 e2
    | 2, hx, hy => cases hx; cases hy; exact .bl _ _
    | i + 3, hx, _ => cases hx
theorem ok_min (a b : Rat) (h1 : 0 ≤ a ∧ Sz 114 a) (h2 : 0 ≤ b ∧ Sz 114 b) : 0 ≤ lmin a b ∧ Sz 114 (lmin a b) := by unfold lmin; split <;> assumption
theorem ok_max (a b : Rat) (h1 : 0 ≤ a ∧ Sz 114 a) (h2 : 0 ≤ b ∧ Sz 114 b) : 0 ≤ lmax a b ∧ Sz 114 (lmax a b) := by unfold lmax; split <;> assumption
theorem sz_one : (0 : Rat) ≤ 1 ∧ Sz 114 1 := ⟨by decide, by decide, by decide⟩
theorem g_sum (l : List Rat) : opR (gop true) (gun true) l = sumQ l := (sumQ_R l).symm
theorem g_prod (l : List Rat) : opR (gop false) (gun false) l = prodQ l := (prodQ_R l).symm
theorem RowAt.split {H0 H : Hp} {b : Bag} {row : Addr} {xs : List V} {qs : List Rat} (R : RowAt K H0 H b row xs qs) : ∃ v0 xt q0 qt, xs = v0 :: xt ∧ qs = q0 :: qt := by
  have h1 := R.ams.1
  have h2 := R.good.1
  cases xs with
  | nil => rw [List.length_nil] at h1; omega
  | cons v0 xt =>
    cases qs with
    | nil => rw [List.length_nil] at h2; omega
    | cons q0 qt => exact ⟨v0, xt, q0, qt, rfl, rfl⟩
def spLaw (K : PySem.W.Frag) : Sp := fun vs H Q _ => ∃ (a : Addr) (ns : List Int), vs = [.ref a] ∧ SqL K H a (ns.map V.int) ∧ ns.length ≤ 63 ∧ ∀ H', Q (.bl true) H'
abbrev s_law : Stmt := top 47
theorem c_law : FnScope ["_law_script", "_law_bag_here", "_law_turn", "_law_row", "_law_k", "_law_whole", "_law_product", "_law_least_one", "_law_greatest", "_law_x", "_law_told", "_law_text"] ["_law_script"] (defScope s_law) := ⟨rfl, rfl, rfl, by decide +kernel, rfl, by decide +kernel, by decide +kernel⟩
theorem f_law (F : FunD K "law" "law" (defArgs s_law) (defBody s_law) (defScope s_law) [] [] f fd) (hm : mg "law" = some (.ref f)) (T : Bt mg) (F_law_bag : Fn P w K mg base 1 "_law_bag" (spBag K)) (F_law_draw : Fn P w K mg base 1 "_law_draw" (spDraw K)) (F_law_of : Fn P w K mg base 2 "_law_of" (spOf K)) (F_law_amount : Fn P w K mg base 4 "_law_amount" (spAmt K)) (F_law_bit : Fn P w K mg base 3 "_law_bit" (spBit K)) (F_law_sum : Fn P w K mg base 3 "_law_sum" (spSum K)) (F_law_mul : Fn P w K mg base 2 "_law_mul" (sp2 (fun _ _ => True) (· * ·) K)) (F_law_min : Fn P w K mg base 2 "_law_min" (sp2 (fun _ _ => True) lmin K)) (F_law_max : Fn P w K mg base 2 "_law_max" (sp2 (fun _ _ => True) lmax K)) (F_law_sums : Fn P w K mg base 3 "_law_sums" (spSums K)) (F_law_mixed : Fn P w K mg base 2 "_law_mixed" (spMixed K)) (F_law_grouped : Fn P w K mg base 3 "_law_grouped" (spGrouped K)) (F_law_like : Fn P w K mg base 4 "_law_like" (spLike K 4)) (F_law_ends : Fn P w K mg base 3 "_law_ends" (spEnds K)) (F_law_three_so : Fn P w K mg base 5 "_law_three_so" (spThree K)) (F_law_show : Fn P w K mg base 1 "_law_show" (spAmTxt K)) (Famount_text : Fn P w K mg base 2 "amount_text" (spAmTxt K)) (Fread_amount : Fn P w K mg base 3 "read_amount" (spReadAm K)) (Fis_amount : Fn P w K mg base 2 "is_amount" (spIsAm K)) : FnOk P w K mg base CX0 6 f fd ["_law_script"] (spLaw K) := by
  refine ok_def F c_law (fun vs H Q E h => ?_) (fun cdv A outer s H vs Q E hr h => ?_)
  · obtain ⟨a, ns, rfl, _⟩ := h
    rfl
  · obtain ⟨a, ns, rfl, hl, h63, k⟩ := h
    have nd := c_law.nd
    refine ⟨_, (pss_cons (ps_set (i := 1) nd rfl (by first | exact Or.inl rfl | exact Or.inr rfl) (pe_fn F_law_bag (hr.mono (by decide)) (pa_cons (pv 0) pa_nil)))
      (pss_cons (ps_for PassesOwn.never rfl (pi_range1 rfl T.range (pa_cons pe_int pa_nil)) (pg_name (i := 2) nd rfl (by first | exact Or.inl rfl | exact Or.inr rfl))
        (pss_mid (ps_setLc (i := 3) (own := [("_law_k", 4)]) (g := gName 4) rfl nd rfl rfl (sw_true rfl rfl rfl (by decide +kernel)) (pi_range1 rfl T.range (pa_cons (pe_op op_add pe_int (pe_fn F_law_draw (hr.mono (by decide)) (pa_cons (pv 1) (pa_cons pe_int pa_nil)))) pa_nil)) (blkOk_by (N := ["_law_script", "_law_bag_here", "_law_turn", "_law_row", "_law_k", "_law_whole", "_law_product", "_law_least_one", "_law_greatest", "_law_x", "_law_told", "_law_text"]) (sc := defScope s_law) (by decide +kernel)) (fun _ _ _ _ _ => pg_name (i := 4) nd rfl (Or.inl rfl)) (fun _ _ _ _ _ => pts_nil) (fun _ _ _ _ _ => (pe_fn F_law_of (hr.mono (by decide)) (pa_cons (pv 1) (pa_cons (pe_lst (pa_cons (pe_fn F_law_amount (hr.mono (by decide)) (pa_cons (pv 1) pa_nil)) (pa_cons (pe_fn F_law_amount (hr.mono (by decide)) (pa_cons (pv 1) pa_nil)) (pa_cons (pe_fn F_law_bit (hr.mono (by decide)) (pa_cons (pv 1) pa_nil)) (pa_cons (pe_tup (pa_cons pe_int (pa_cons pe_int pa_nil))) pa_nil))))) pa_nil)))))
        (pss_mid (ps_if (pt_cmpR op_eq (pe_fn F_law_draw (hr.mono (by decide)) (pa_cons (pv 1) (pa_cons pe_int pa_nil))) pe_int (nomark _))
          (pss_one (ps_asg (pe_ix ix_list (pv 3) pe_int (fun _ _ => rfl)) (pg_sub (pv 3) (pe_fn F_law_draw (hr.mono (by decide)) (pa_cons (pv 1) (pa_cons (pe_callB cr_len (by rfl) T.len (by decide +kernel) (pa_cons (pv 3) pa_nil)) pa_nil))) set_list)))
          pss_nil)
        (pss_cons (ps_set (i := 5) nd rfl (by first | exact Or.inl rfl | exact Or.inr rfl) (pe_fn F_law_sum (hr.mono (by decide)) (pa_cons (pv 3) pa_nil)))
        (pss_cons (ps_set (i := 6) nd rfl (by first | exact Or.inl rfl | exact Or.inr rfl) (pe_tup (pa_cons pe_int (pa_cons pe_int pa_nil))))
        (pss_cons (ps_set (i := 7) nd rfl (by first | exact Or.inl rfl | exact Or.inr rfl) (pe_ix ix_list (pv 3) pe_int (fun _ _ => rfl)))
        (pss_cons (ps_set (i := 8) nd rfl (by first | exact Or.inl rfl | exact Or.inr rfl) (pe_ix ix_list (pv 3) pe_int (fun _ _ => rfl)))
        (pss_mid (ps_for PassesOwn.never rfl (pi_list (pv 3)) (pg_name (i := 9) nd rfl (by first | exact Or.inl rfl | exact Or.inr rfl))
          (pss_cons (ps_set (i := 6) nd rfl (by first | exact Or.inl rfl | exact Or.inr rfl) (pe_fn F_law_mul (hr.mono (by decide)) (pa_cons (pv 6) (pa_cons (pv 9) pa_nil))))
          (pss_cons (ps_set (i := 7) nd rfl (by first | exact Or.inl rfl | exact Or.inr rfl) (pe_fn F_law_min (hr.mono (by decide)) (pa_cons (pv 7) (pa_cons (pv 9) pa_nil))))
          (pss_one (ps_set (i := 8) nd rfl (by first | exact Or.inl rfl | exact Or.inr rfl) (pe_fn F_law_max (hr.mono (by decide)) (pa_cons (pv 8) (pa_cons (pv 9) pa_nil))))))))
        (pss_mid (ps_set (i := 10) nd rfl (by first | exact Or.inl rfl | exact Or.inr rfl) (pe_lst (pa_cons (pe_fn F_law_sums (hr.mono (by decide)) (pa_cons (pv 3) pa_nil)) (pa_cons (pe_fn F_law_sums (hr.mono (by decide)) (pa_cons (pe_fn F_law_mixed (hr.mono (by decide)) (pa_cons (pv 1) (pa_cons (pv 3) pa_nil))) pa_nil)) (pa_cons (pe_fn F_law_grouped (hr.mono (by decide)) (pa_cons (pv 1) (pa_cons (pv 3) (pa_cons pe_bl pa_nil)))) (pa_cons (pe_fn F_law_grouped (hr.mono (by decide)) (pa_cons (pv 1) (pa_cons (pv 3) (pa_cons pe_bl pa_nil)))) (pa_cons (pe_fn F_law_grouped (hr.mono (by decide)) (pa_cons (pv 1) (pa_cons (pv 3) (pa_cons pe_bl pa_nil)))) pa_nil)))))))
        (pss_mid (ps_if (pt_not (pt_val (pe_fn F_law_like (hr.mono (by decide)) (pa_cons (pv 10) (pa_cons (pe_lst (pa_cons (pv 5) (pa_cons (pv 5) (pa_cons (pv 5) (pa_cons (pv 6) (pa_cons (pv 6) pa_nil)))))) pa_nil)))))
          (pss_one (ps_ret pe_bl))
          pss_nil)
        (pss_mid (ps_if (pt_not (pt_val (pe_fn F_law_like (hr.mono (by decide)) (pa_cons (pe_op op_cat (pe_fn F_law_ends (hr.mono (by decide)) (pa_cons (pv 3) pa_nil)) (pe_fn F_law_ends (hr.mono (by decide)) (pa_cons (pe_fn F_law_mixed (hr.mono (by decide)) (pa_cons (pv 1) (pa_cons (pv 3) pa_nil))) pa_nil))) (pa_cons (pe_lst (pa_cons (pv 7) (pa_cons (pv 8) (pa_cons (pv 7) (pa_cons (pv 8) pa_nil))))) pa_nil)))))
          (pss_one (ps_ret pe_bl))
          pss_nil)
        (pss_mid (ps_for PassesOwn.never rfl (pi_range1 rfl T.range (pa_cons (pe_op op_sub (pe_callB cr_len (by rfl) T.len (by decide +kernel) (pa_cons (pv 3) pa_nil)) pe_int) pa_nil)) (pg_name (i := 4) nd rfl (by first | exact Or.inl rfl | exact Or.inr rfl))
          (pss_one (ps_if (PW.pt (pw_or (pt_not (pt_val (pe_fn F_law_three_so (hr.mono (by decide)) (pa_cons (pe_ix ix_list (pv 3) (pv 4) (fun _ _ => rfl)) (pa_cons (pe_ix ix_list (pv 3) (pe_op op_add (pv 4) pe_int) (fun _ _ => rfl)) (pa_cons (pe_ix ix_list (pv 3) (pe_op op_add (pv 4) pe_int) (fun _ _ => rfl)) pa_nil)))))) (pw_or1 (pt_not (pt_val (pe_fn F_law_three_so (hr.mono (by decide)) (pa_cons (pe_ix ix_list (pv 3) (pe_op op_add (pv 4) pe_int) (fun _ _ => rfl)) (pa_cons (pe_ix ix_list (pv 3) (pv 4) (fun _ _ => rfl)) (pa_cons (pe_ix ix_list (pv 3) (pe_op op_add (pv 4) pe_int) (fun _ _ => rfl)) pa_nil)))))))))
            (pss_one (ps_ret pe_bl))
            pss_nil)))
        (pss_one (ps_for PassesOwn.never rfl (pi_list (pe_lst (pa_cons (pe_ix ix_list (pv 10) pe_int (fun _ _ => rfl)) (pa_cons (pe_ix ix_list (pv 10) pe_int (fun _ _ => rfl)) (pa_cons (pe_ix ix_list (pv 3) pe_int (fun _ _ => rfl)) (pa_cons (pe_ix ix_list (pv 3) pe_int (fun _ _ => rfl)) pa_nil)))))) (pg_name (i := 9) nd rfl (by first | exact Or.inl rfl | exact Or.inr rfl))
          (pss_cons (ps_set (i := 11) nd rfl (by first | exact Or.inl rfl | exact Or.inr rfl) (pe_fn F_law_show (hr.mono (by decide)) (pa_cons (pv 9) pa_nil)))
          (pss_one (ps_if (pt_not (pt_val (pe_fn F_law_like (hr.mono (by decide)) (pa_cons (pe_lst (pa_cons (pe_fn Famount_text (hr.mono (by decide)) (pa_cons (pv 9) pa_nil)) (pa_cons (pe_fn Fread_amount (hr.mono (by decide)) (pa_cons (pv 11) pa_nil)) (pa_cons (pe_fn Fis_amount (hr.mono (by decide)) (pa_cons (pv 9) pa_nil)) pa_nil)))) (pa_cons (pe_lst (pa_cons (pv 11) (pa_cons (pv 9) (pa_cons pe_bl pa_nil)))) pa_nil)))))
            (pss_one (ps_ret pe_bl))
            pss_nil)))))))))))))))))
      (pss_one (ps_ret pe_bl)))), ?_⟩
    show (_ : TS) _ [some _, none, none, none, none, none, none, none, none, none, none, none] _
    try dsimp only [cxOf, Cx.nox]
    walk_at "go"
    refine ⟨a, ns, rfl, hl, h63, fun b H1 hn e1 hb1 => ?_⟩
    walk_at "go"
    refine r_for ?_
    walk_at "go"
    refine ⟨_, rfl, by omega, by omega, ?_⟩
    refine r_loopR (fun i σ H1 => ∃ (o2 o3 o4 o5 o6 o7 o8 o9 o10 o11 : Option V), BagAt K H1 b ∧ σ = [some (V.ref a), some (V.ref b.a), o2, o3, o4, o5, o6, o7, o8, o9, o10, o11])
      ⟨_, _, _, _, _, _, _, _, _, _, hb1, rfl⟩ ?_ ?_
    · rintro i σ H0 hi ⟨o2, o3, o4, o5, o6, o7, o8, o9, o10, o11, hb0, rfl⟩
      walk_at "go"
      refine r_mid (fun σ' H' => ∃ (row : Addr) (xs : List V) (qs : List Rat), RowAt K H0 H' b row xs qs ∧ σ' = [some (V.ref a), some (V.ref b.a), some (V.int (0 + (i : Int))), some (V.ref row), o4, o5, o6, o7, o8, o9, o10, o11]) ?_ ?_
      · walk_at "go"
        refine ⟨b, 4, rfl, by decide, by decide, by walk_at "bag", fun x H1 x0 x1 hb1 n1 => ?_⟩
        walk_at "go"
        refine ⟨_, rfl, by omega, by omega, fun D hD => ?_⟩
        have hD0 : H0 D = none := n1.freeS hD fun c hc => by rw [List.mem_singleton.mp hc]; obtain ⟨l, q⟩ := hb1.lst; rw [q]; exact fun z => nomatch z
        have nbD : D ≠ b.a := fun z => hb1.ne hD z.symm
        refine r_lcR (n := (3 + x).toNat) (fun i H2 => ∃ (acc : List V) (qs : List Rat), H2 D = some (.lst acc) ∧ acc.length = i ∧ Ams K H2 acc qs ∧ (∀ q ∈ qs, 0 ≤ q ∧ Sz 114 q) ∧ BagAt K H2 b ∧ Ext [b.a] H0 H2)
          ⟨[], [], upd_same, rfl, Ams.nil, fun q hq => (nomatch hq), hb1.new hD, n1.new hD⟩ ?_ ?_
        · rintro j H2 hj ⟨acc, qs, hacc, hlen, hams, hgood, hb2, n2⟩
          walk_at "go"
          refine ⟨rfl, ?_⟩
          walk_at "go"
          refine k_amt (by walk_at "bag") fun v1 q1 H3 a1 c1 s1 b3 n3 => ?_
          walk_at "go"
          refine k_amt (by walk_at "bag") fun v2 q2 H4 a2 c2 s2 b4 n4 => ?_
          walk_at "go"
          refine spBit_amt (by walk_at "bag") fun v3 q3 H5 a3 c3 s3 b5 n5 => ?_
          walk_at "go"
          have d1 := (a1.b b3 n4).b b4 n5
          have d2 := a2.b b4 n5
          refine of_am (qs := [q1, q2, q3, 0]) (by walk_at "bag") lstS (BagAt.ne' (K := K) (by assumption) (by walk_at "bag")) ?_ (Nat.zero_lt_succ _) (show 4 ≤ 4000 by decide) fun v q H6 hq hm b6 n6 => ?_
          · refine Ams.cons (by walk_at "am") (Ams.cons (by walk_at "am") (Ams.cons (by walk_at "am") (Ams.cons (am_lit _ _ (by walk_at "sq")) Ams.nil)))
          have e6 : Ext [b.a] H2 H6 := ((n3.trans n4).trans n5).trans (Ext.trans (by walk_at "ext") n6)
          have hD6 : H6 D = some (.lst acc) := e6 _ _ hacc (by simpa using nbD)
          have S6 : ∀ c ∈ [D], ∃ l, H6 c = some (.lst l) := fun c hc => by rw [List.mem_singleton.mp hc]; exact ⟨_, hD6⟩
          have e7 : Ext [D] H6 (upd H6 D (.lst (acc ++ [v]))) := Ext.refl.at_ List.mem_cons_self
          refine ⟨acc, hD6, Nat.lt_of_le_of_lt (by omega : acc.length ≤ 4000) (by decide), acc ++ [v], qs ++ [q], upd_same, ?_, ?_, ?_, hb0.own hD0 b6, (n2.trans e6).own hD0⟩
          · rw [List.length_append, hlen]
            rfl
          · exact ((hams.b hb2 e6).x e7 S6).app (Ams.cons (hm.x e7 S6) Ams.nil)
          · intro r hr
            rcases List.mem_append.mp hr with hr | hr
            · exact hgood r hr
            · rw [List.mem_singleton.mp hr]
              simp only [List.mem_cons, List.not_mem_nil, or_false] at hq
              rcases hq with rfl | rfl | rfl | rfl
              · exact ⟨c1, s1⟩
              · exact ⟨c2, s2⟩
              · exact ⟨c3, s3⟩
              · exact ⟨by decide, by decide, by decide⟩
        · rintro H2 ⟨acc, qs, hacc, hlen, hams, hgood, hb2, n2⟩
          walk_at "go"
          refine ⟨D, acc, qs, ⟨hacc, hams, ⟨by rw [← hams.1]; omega, by rw [← hams.1]; omega, hgood⟩, hb2, hD0, hb0, n2⟩, rfl⟩
      · rintro σ' H1 ⟨row, xs, qs, R, rfl⟩
        refine r_mid (fun σ' H' => ∃ (xs : List V) (qs : List Rat), RowAt K H0 H' b row xs qs ∧ σ' = [some (V.ref a), some (V.ref b.a), some (V.int (0 + (i : Int))), some (V.ref row), o4, o5, o6, o7, o8, o9, o10, o11]) ?_ ?_
        · walk_at "go"
          refine k_draw R.bag (by decide) (by decide) fun x H2 x0 x1 b2 n2 => ?_
          walk_at "go"
          have R2 := R.b n2 b2
          refine r_dec (fun h0 => ?_) (fun h0 => ?_)
          · walk_at "go"
            obtain ⟨v0, xt, q0, qt, rfl, rfl⟩ := R2.split
            refine r_ixL R2.sq at0 ?_
            walk_at "go"
            refine r_len (.inl R2.sq) ?_
            walk_at "go"
            have l2 := R2.ams.1
            have g2 := R2.good.2.1
            rw [← l2] at g2
            refine k_draw R2.bag (by rw [List.length_cons]; omega) (Int.lt_of_le_of_lt (by omega : (((v0 :: xt).length : Nat) : Int) ≤ 6) (by decide)) fun y H3 y0 y1 b3 n3 => ?_
            have R3 := R2.b n3 b3
            have hy : y.toNat < (v0 :: xt).length := by omega
            have hyq : y.toNat < (q0 :: qt).length := by omega
            refine r_setL R3.at_ (j := y.toNat) (ixN_at (by omega) hy) ?_
            have S3 : ∀ c ∈ [row], ∃ l, H3 c = some (.lst l) := fun c hc => by rw [List.mem_singleton.mp hc]; exact ⟨_, R3.at_⟩
            have e3 : Ext [row] H3 (upd H3 row (.lst ((v0 :: xt).set y.toNat v0))) := Ext.refl.at_ List.mem_cons_self
            have a0 : Am K H3 v0 q0 := R3.ams.2 0 v0 q0 rfl rfl
            refine ⟨(v0 :: xt).set y.toNat v0, (q0 :: qt).set y.toNat q0, ⟨upd_same, (R3.ams.set a0).x e3 S3, ⟨?_, ?_, ?_⟩, hb0.own R3.new b3, R3.new, hb0, R3.ext.own R3.new⟩, rfl⟩
            · rw [List.length_set]; exact R3.good.1
            · rw [List.length_set]; exact R3.good.2.1
            · intro q hq
              rcases List.mem_or_eq_of_mem_set hq with hq | rfl
              · exact R3.good.2.2 q hq
              · exact R3.good.2.2 _ List.mem_cons_self
          · walk_at "go"
            exact ⟨xs, qs, R2, rfl⟩
        · rintro σ' H1 ⟨xs, qs, R, rfl⟩
          obtain ⟨v0, xt, q0, qt, rfl, rfl⟩ := R.split
          have lx := R.ams.1
          have zz : ∀ q ∈ q0 :: qt, Sz 114 q := fun q hq => (R.good.2.2 q hq).2
          have nn : ∀ q ∈ q0 :: qt, 0 ≤ q := fun q hq => (R.good.2.2 q hq).1
          have z6 : 1 + (q0 :: qt).length * (114 + 1) ≤ 4000 := by have := R.good.2.1; omega
          walk_at "go"
          refine ⟨row, _, q0 :: qt, 114, rfl, R.sq, R.ams, zz, nn, by decide, z6, fun vw H2 n2 aw => ?_⟩
          walk_at "go"
          have R2 := R.x0 n2
          refine r_ixL (R2.x0 (Ext.refl.new (by assumption))).sq at0 ?_
          walk_at "go"
          refine r_ixL (R2.x0 (Ext.refl.new (by assumption))).sq at0 ?_
          walk_at "go"
          have R3 := R2.x0 (Ext.refl.new (o := .tup [.int 1, .int 1]) (by assumption))
          have aw3 : Am K _ vw (sumQ (q0 :: qt)) := aw.n (o := .tup [.int 1, .int 1]) (by assumption)
          refine r_mid (fun σ' H' => ∃ (vp vm vg : V) (o9 : Option V), RowAt K H0 H' b row (v0 :: xt) (q0 :: qt) ∧ Am K H' vw (sumQ (q0 :: qt)) ∧ Am K H' vp (prodQ (q0 :: qt)) ∧ Am K H' vm (minQ q0 qt) ∧ Am K H' vg (maxQ q0 qt) ∧
            σ' = [some (V.ref a), some (V.ref b.a), some (V.int (0 + (i : Int))), some (V.ref row), o4, some vw, some vp, some vm, some vg, o9, o10, o11]) ?_ ?_
          · refine r_for ?_
            walk_at "go"
            refine ⟨row, rfl, ⟨_, R3.sq⟩, ?_⟩
            refine r_loopL (xs := v0 :: xt) (fun j σ' H' => ∃ (vp vm vg : V) (o9 : Option V), RowAt K H0 H' b row (v0 :: xt) (q0 :: qt) ∧ Am K H' vw (sumQ (q0 :: qt)) ∧ Am K H' vp (((q0 :: qt).take j).foldl (· * ·) 1) ∧ Am K H' vm (((q0 :: qt).take j).foldl lmin q0) ∧ Am K H' vg (((q0 :: qt).take j).foldl lmax q0) ∧
              σ' = [some (V.ref a), some (V.ref b.a), some (V.int (0 + (i : Int))), some (V.ref row), o4, some vw, some vp, some vm, some vg, o9, o10, o11])
              ⟨_, v0, v0, o9, R3, aw3, ⟨_, rfl, tupS⟩, R3.ams.2 0 v0 q0 rfl rfl, R3.ams.2 0 v0 q0 rfl rfl, rfl⟩ ?_ ?_ ?_
            · rintro j σ' H' hj ⟨vp, vm, vg, o9, R4, _⟩
              exact R4.sq
            · rintro j x σ' H' hx ⟨vp, vm, vg, o9, R4, aw4, ap, an, ag, rfl⟩
              obtain ⟨q, hq, aq⟩ := R4.ams.at_ hx
              have tk : ∀ r ∈ (q0 :: qt).take j, 0 ≤ r ∧ Sz 114 r := fun r hr => R.good.2.2 r (List.mem_of_mem_take hr)
              have gq := R.good.2.2 q (List.mem_of_getElem? hq)
              have g0 := R.good.2.2 q0 List.mem_cons_self
              have fp := fold_prod _ 1 114 sz_one.1 sz_one.2 tk
              have fm := fold_all ok_min _ q0 g0 tk
              have fg := fold_all ok_max _ q0 g0 tk
              have jl : 114 + 114 * ((q0 :: qt).take j).length ≤ 4000 := by
                have := R.good.2.1
                rw [List.length_take]
                omega
              walk_at "go"
              refine k_two ap aq (fp.2.mono jl) (gq.2.mono (by decide)) fp.1 gq.1 trivial fun vp' H3 n3 ap' => ?_
              walk_at "go"
              refine k_two (an.x0 n3) (aq.x0 n3) (fm.2.mono (by decide)) (gq.2.mono (by decide)) fm.1 gq.1 trivial fun vm' H4 n4 am' => ?_
              walk_at "go"
              refine k_two ((ag.x0 n3).x0 n4) ((aq.x0 n3).x0 n4) (fg.2.mono (by decide)) (gq.2.mono (by decide)) fg.1 gq.1 trivial fun vg' H5 n5 ag' => ?_
              walk_at "go"
              have e1 := fold_take (f := (· * · : Rat → Rat → Rat)) (z := 1) hq
              have e2 := fold_take (f := lmin) (z := q0) hq
              have e3 := fold_take (f := lmax) (z := q0) hq
              refine ⟨vp', vm', vg', some x, ((R4.x0 n3).x0 n4).x0 n5, ((aw4.x0 n3).x0 n4).x0 n5, ?_, ?_, ?_, rfl⟩
              · rw [e1]
                exact (ap'.x0 n4).x0 n5
              · rw [e2]
                exact am'.x0 n5
              · rw [e3]
                exact ag'
            · rintro σ' H' ⟨vp, vm, vg, o9, R4, aw4, ap, an, ag, rfl⟩
              rw [lx, List.take_length] at ap an ag
              rw [foldl_lmin] at an
              rw [foldl_lmax] at ag
              exact ⟨vp, vm, vg, o9, R4, aw4, ap, an, ag, rfl⟩
          · rintro σ' H3 ⟨vp, vm, vg, u9, R3, aw3, ap, am_, ag, rfl⟩
            refine r_mid (fun σ' H' => ∃ (D : Addr) (v1 v2 v3 v4 v5 : V), H' D = some (.lst [v1, v2, v3, v4, v5]) ∧ D ≠ b.a ∧ Ams K H' [v1, v2, v3, v4, v5] [sumQ (q0 :: qt), sumQ (q0 :: qt), sumQ (q0 :: qt), prodQ (q0 :: qt), prodQ (q0 :: qt)] ∧ Ext [b.a] H3 H' ∧ BagAt K H' b ∧
              σ' = [some (V.ref a), some (V.ref b.a), some (V.int (0 + (i : Int))), some (V.ref row), o4, some vw, some vp, some vm, some vg, u9, some (V.ref D), o11]) ?_ ?_
            · walk_at "go"
              refine ⟨row, _, q0 :: qt, rfl, R3.sq, R3.ams, R3.good.1, R3.good.2.1, zz, fun v1 H4 n4 a1 => ?_⟩
              walk_at "go"
              have R4 := R3.x0 n4
              have l6 : (v0 :: xt).length ≤ 6 := by rw [lx]; exact R.good.2.1
              refine ⟨b, row, _, rfl, R4.bag, R4.sq, R4.ne.symm, by omega, fun p ys H5 perm hp hpys b5 n5 => ?_⟩
              have R5 := R4.b n5 b5
              obtain ⟨rs, ar, pr⟩ := ams_perm perm R5.ams
              have gr := R5.good.perm pr
              walk_at "go"
              refine ⟨p, ys, rs, rfl, .inl (.inl hpys), ar, gr.1, gr.2.1, fun q hq => (gr.2.2 q hq).2, fun v2 H6 n6 a2 => ?_⟩
              rw [sumQ_perm pr] at a2
              have R6 := R5.x0 n6
              walk_at "go"
              refine ⟨b, row, true, _, _, rfl, R6.bag, R6.sq, R6.ne.symm, R6.ams, by have := R6.good.1; omega, R6.good.2.1, zz, fun v3 H7 a3 b7 n7 => ?_⟩
              rw [g_sum] at a3
              have R7 := R6.b n7 b7
              walk_at "go"
              refine ⟨b, row, false, _, _, rfl, R7.bag, R7.sq, R7.ne.symm, R7.ams, by have := R7.good.1; omega, R7.good.2.1, zz, fun v4 H8 a4 b8 n8 => ?_⟩
              rw [g_prod] at a4
              have R8 := R7.b n8 b8
              walk_at "go"
              refine ⟨b, row, false, _, _, rfl, R8.bag, R8.sq, R8.ne.symm, R8.ams, by have := R8.good.1; omega, R8.good.2.1, zz, fun v5 H9 a5 b9 n9 => ?_⟩
              rw [g_prod] at a5
              have R9 := R8.b n9 b9
              walk_at "go"
              have c1 := (((a1.b R4.bag n5).x0 n6).b R6.bag n7).b b7 n8
              have c2 := (a2.b R6.bag n7).b b7 n8
              have c3 := a3.b b7 n8
              have nn9 : Ext [b.a] H3 H9 := ((((n4.of0.trans n5).trans n6.of0).trans n7).trans n8).trans n9
              refine ⟨_, v1, v2, v3, v4, v5, upd_same, (b9.ne (by assumption)).symm, ?_, nn9.new (by assumption), b9.new (by assumption), rfl⟩
              exact Ams.x0 (Ext.refl.new (by assumption)) (Ams.cons (c1.b b8 n9) (Ams.cons (c2.b b8 n9) (Ams.cons (c3.b b8 n9) (Ams.cons (a4.b b8 n9) (Ams.cons a5 Ams.nil)))))
            · rintro σ' H4 ⟨D, v1, v2, v3, v4, v5, hD, nD, at_, n4, b4, rfl⟩
              have R4 := R3.b n4 b4
              have aw4 := aw3.b R3.bag n4
              have ap4 := ap.b R3.bag n4
              have am4 := am_.b R3.bag n4
              have ag4 := ag.b R3.bag n4
              clear aw3 ap am_ ag n4
              refine r_mid (fun σ' H' => Ext [] H4 H' ∧ σ' = [some (V.ref a), some (V.ref b.a), some (V.int (0 + (i : Int))), some (V.ref row), o4, some vw, some vp, some vm, some vg, u9, some (V.ref D), o11]) ?_ ?_
              · walk_at "go"
                refine k_like (ams_eqd (.inl (.inl (by rw [upd_ne (ne_of_none hD (by assumption))]; exact hD))) lstS (at_.x0 (Ext.refl.new (by assumption))) (Ams.x0 (Ext.refl.new (by assumption)) (Ams.cons aw4 (Ams.cons aw4 (Ams.cons aw4 (Ams.cons ap4 (Ams.cons ap4 Ams.nil)))))) (show 5 ≤ 4000 by decide) 1) fun H8 e8 => ?_
                walk_at "run"
                exact ⟨by walk_at "ext", rfl⟩
              · rintro σ' H5 ⟨n5, rfl⟩
                have R5 := R4.x0 n5
                refine r_mid (fun σ' H' => Ext [b.a] H5 H' ∧ BagAt K H' b ∧ σ' = [some (V.ref a), some (V.ref b.a), some (V.int (0 + (i : Int))), some (V.ref row), o4, some vw, some vp, some vm, some vg, u9, some (V.ref D), o11]) ?_ ?_
                · walk_at "go"
                  refine ⟨row, _, q0, qt, rfl, R5.sq, R5.ams, R5.good.1, R5.good.2.1, zz, fun p1 w1 w2 H6 hp1 hpl1 a1 a2 n6 => ?_⟩
                  have R6 := R5.x0 n6
                  walk_at "go"
                  have l6 : (v0 :: xt).length ≤ 6 := by rw [lx]; exact R.good.2.1
                  refine ⟨b, row, _, rfl, R6.bag, R6.sq, R6.ne.symm, by omega, fun p ys H7 perm hp hpys b7 n7 => ?_⟩
                  have R7 := R6.b n7 b7
                  obtain ⟨rs, ar, pr⟩ := ams_perm perm R7.ams
                  have gr := R7.good.perm pr
                  walk_at "go"
                  obtain ⟨r0, rt, rfl⟩ : ∃ r0 rt, rs = r0 :: rt := by
                    cases rs with
                    | nil => exact absurd gr.1 (by simp)
                    | cons r0 rt => exact ⟨r0, rt, rfl⟩
                  refine ⟨p, ys, r0, rt, rfl, .inl (.inl hpys), ar, gr.1, gr.2.1, fun q hq => (gr.2.2 q hq).2, fun p2 w3 w4 H8 hp2 hpl2 a3 a4 n8 => ?_⟩
                  rw [minQ_perm pr] at a3
                  rw [maxQ_perm pr] at a4
                  have hpl1' : H8 p1 = some (.lst [w1, w2]) := n8 _ _ (n7 _ _ hpl1 (by simpa using fun z => R5.bag.ne hp1 z.symm)) (fun z => nomatch z)
                  walk_at "go"
                  refine ⟨p1, p2, _, _, rfl, rfl, hpl1', hpl2, show 4 ≤ sizeLine by decide, fun p3 hp3 => ?_⟩
                  walk_at "go"
                  have bb : Ext [b.a] H4 H8 := ((n5.of0.trans n6.of0).trans n7).trans n8.of0
                  have cm := am4.b R4.bag bb
                  have cg := ag4.b R4.bag bb
                  refine k_like (ams_eqd (xs := [w1, w2, w3, w4]) (ys := [vm, vg, vm, vg]) (qs := [minQ q0 qt, maxQ q0 qt, minQ q0 qt, maxQ q0 qt]) (by walk_at "sq") lstS
                    (Ams.x0 (Ext.refl.new (by assumption)) (Ams.x0 (Ext.refl.new hp3) (Ams.cons ((a1.b R6.bag n7).x0 n8) (Ams.cons ((a2.b R6.bag n7).x0 n8) (Ams.cons a3 (Ams.cons a4 Ams.nil))))))
                    (Ams.x0 (Ext.refl.new (by assumption)) (Ams.x0 (Ext.refl.new hp3) (Ams.cons cm (Ams.cons cg (Ams.cons cm (Ams.cons cg Ams.nil)))))) (show 4 ≤ 4000 by decide) 1) fun H9 e9 => ?_
                  walk_at "run"
                  have e8 := ((Ext.refl.new (S := []) hp3).trans (Ext.refl.new (by assumption))).trans e9
                  exact ⟨((n6.of0.trans n7).trans n8.of0).trans e8.of0, (b7.x0 n8).x0 e8, rfl⟩
                · rintro σ' H6 ⟨n6, b6, rfl⟩
                  have R6 := R5.b n6 b6
                  have D6 : H6 D = some (.lst [v1, v2, v3, v4, v5]) := n6 _ _ (n5 _ _ hD (fun z => nomatch z)) (by simpa using nD)
                  have at6 := (at_.x0 n5).b R5.bag n6
                  refine r_mid (fun σ' H' => Ext [] H6 H' ∧ ∃ u4, σ' = [some (V.ref a), some (V.ref b.a), some (V.int (0 + (i : Int))), some (V.ref row), u4, some vw, some vp, some vm, some vg, u9, some (V.ref D), o11]) ?_ ?_
                  · refine r_for ?_
                    walk_at "go"
                    refine r_len (.inl R6.sq) ?_
                    walk_at "go"
                    have g3 := R6.good.1
                    have g6 := R6.good.2.1
                    rw [← lx] at g3 g6
                    refine ⟨_, rfl, by omega, by omega, ?_⟩
                    refine r_loopR (fun j σ' H' => Ext [] H6 H' ∧ ∃ u4, σ' = [some (V.ref a), some (V.ref b.a), some (V.int (0 + (i : Int))), some (V.ref row), u4, some vw, some vp, some vm, some vg, u9, some (V.ref D), o11]) ⟨Ext.refl, o4, rfl⟩ ?_ ?_
                    · rintro j σ' H7 hj ⟨n7, u4, rfl⟩
                      have R7 := R6.x0 n7
                      have j2 : j + 2 < (v0 :: xt).length := by omega
                      have q2 : j + 2 < (q0 :: qt).length := by omega
                      have at_0 := List.getElem?_eq_getElem (show j < (v0 :: xt).length by omega)
                      have at_1 := List.getElem?_eq_getElem (show j + 1 < (v0 :: xt).length by omega)
                      have at_2 := List.getElem?_eq_getElem j2
                      obtain ⟨y0, hy0, a0⟩ := R7.ams.at_ at_0
                      obtain ⟨y1, hy1, a1⟩ := R7.ams.at_ at_1
                      obtain ⟨y2, hy2, a2⟩ := R7.ams.at_ at_2
                      have g0 := R.good.2.2 y0 (List.mem_of_getElem? hy0)
                      have g1 := R.good.2.2 y1 (List.mem_of_getElem? hy1)
                      have g2 := R.good.2.2 y2 (List.mem_of_getElem? hy2)
                      walk_at "go"
                      refine r_ixL R7.sq (at_n (by omega) at_0) ?_
                      walk_at "go"
                      refine r_ixL R7.sq (at_n (by omega) at_1) ?_
                      walk_at "go"
                      refine r_ixL R7.sq (at_n (by omega) at_2) ?_
                      walk_at "go"
                      refine ⟨_, _, _, _, _, _, rfl, a0, a1, a2, g0.1, g1.1, g2.1, g0.2, g1.2, g2.2, fun H8 n8 => ?_⟩
                      have R8 := R7.x0 n8
                      walk_at "run"
                      refine r_ixL R8.sq (at_n (by omega) at_2) ?_
                      walk_at "go"
                      refine r_ixL R8.sq (at_n (by omega) at_0) ?_
                      walk_at "go"
                      refine r_ixL R8.sq (at_n (by omega) at_1) ?_
                      walk_at "go"
                      refine ⟨_, _, _, _, _, _, rfl, a2.x0 n8, a0.x0 n8, a1.x0 n8, g2.1, g0.1, g1.1, g2.2, g0.2, g1.2, fun H9 n9 => ?_⟩
                      walk_at "run"
                      exact ⟨(n7.trans n8).trans n9, _, rfl⟩
                    · rintro σ' H7 h
                      exact h
                  · rintro σ' H7 ⟨n7, u4, rfl⟩
                    have R7 := R6.x0 n7
                    have D7 : H7 D = some (.lst [v1, v2, v3, v4, v5]) := n7 _ _ D6 (fun z => nomatch z)
                    have at7 := at6.x0 n7
                    have g3 := R.good.1
                    have g6 := R.good.2.1
                    have p0 := fold_prod _ 1 114 sz_one.1 sz_one.2 R.good.2.2
                    have s0 := fold_sum _ 0 114 Rat.le_refl ⟨by decide, by decide⟩ R.good.2.2
                    have x1 := List.getElem?_eq_getElem (show 1 < (v0 :: xt).length by omega)
                    generalize (v0 :: xt)[1]'(by omega) = v1' at x1
                    obtain ⟨q1', hq1, a1'⟩ := R7.ams.at_ x1
                    refine r_for ?_
                    walk_at "go"
                    refine r_ixL (.inl (.inl D7)) at0 ?_
                    walk_at "go"
                    refine r_ixL (.inl (.inl D7)) (at_n (n := 3) (v := v4) rfl rfl) ?_
                    walk_at "go"
                    refine r_ixL R7.sq at0 ?_
                    walk_at "go"
                    refine r_ixL R7.sq (at_n (n := 1) rfl x1) ?_
                    walk_at "go"
                    rename_i pl hpl
                    refine ⟨pl, rfl, ⟨_, lstS⟩, ?_⟩
                    have a4 : Ams K (upd H7 pl (.lst [v1, v4, v0, v1'])) [v1, v4, v0, v1'] [sumQ (q0 :: qt), prodQ (q0 :: qt), q0, q1'] :=
                      Ams.x0 (Ext.refl.new hpl) (Ams.cons (at7.2 0 _ _ rfl rfl) (Ams.cons (at7.2 3 _ _ rfl rfl) (Ams.cons (R7.ams.2 0 v0 q0 rfl rfl) (Ams.cons a1' Ams.nil))))
                    have gg : ∀ q ∈ [sumQ (q0 :: qt), prodQ (q0 :: qt), q0, q1'], 0 ≤ q ∧ Sz 1200 q := by
                      intro q hq
                      simp only [List.mem_cons, List.not_mem_nil, or_false] at hq
                      rcases hq with rfl | rfl | rfl | rfl
                      · exact ⟨s0.1, s0.2.mono (by omega)⟩
                      · exact ⟨p0.1, p0.2.mono (by omega)⟩
                      · have := R.good.2.2 _ List.mem_cons_self
                        exact ⟨this.1, this.2.mono (by decide)⟩
                      · have := R.good.2.2 _ (List.mem_of_getElem? hq1)
                        exact ⟨this.1, this.2.mono (by decide)⟩
                    have bl := R7.bag.new (o := .lst [v1, v4, v0, v1']) hpl
                    have hs : SqL K (upd H7 pl (.lst [v1, v4, v0, v1'])) pl [v1, v4, v0, v1'] := lstS
                    generalize upd H7 pl (.lst [v1, v4, v0, v1']) = H8 at *
                    refine r_loopL (xs := [v1, v4, v0, v1']) (fun j σ' H' => Ext [] H8 H' ∧ ∃ u9 u11, σ' = [some (V.ref a), some (V.ref b.a), some (V.int (0 + (i : Int))), some (V.ref row), u4, some vw, some vp, some vm, some vg, u9, some (V.ref D), u11]) ⟨Ext.refl, u9, o11, rfl⟩ ?_ ?_ ?_
                    · rintro j σ' H9 hj ⟨n9, _⟩
                      exact lst0 n9 hs
                    · rintro j x σ' H9 hx ⟨n9, u9, u11, rfl⟩
                      obtain ⟨q, hq, aq⟩ := a4.at_ hx
                      obtain ⟨q0', qz⟩ := gg q (List.mem_of_getElem? hq)
                      have aq9 := aq.x0 n9
                      walk_at "go"
                      refine ⟨x, q, rfl, aq9, q0', qz.mono (by decide), fun H10 n10 => ?_⟩
                      walk_at "go"
                      have aq10 := aq9.x0 n10
                      refine ⟨x, q, rfl, aq10, q0', qz.mono (by decide), fun H11 n11 => ?_⟩
                      walk_at "go"
                      have aq11 := aq10.x0 n11
                      refine ⟨q, rfl, q0', qz, fun y H12 n12 ay => ?_⟩
                      walk_at "go"
                      have aq12 := aq11.x0 n12
                      refine ⟨x, q, rfl, aq12, q0', ?_⟩
                      walk_at "go"
                      refine k_like (three_eqd (by walk_at "sq") (by walk_at "sq") (q := q) (by walk_at "am") (by walk_at "am")) fun H13 n13 => ?_
                      walk_at "run"
                      have e12 := ((n9.trans n10).trans n11).trans n12
                      exact ⟨e12.trans (by walk_at "ext"), _, _, rfl⟩
                    · rintro σ' H9 ⟨n9, u9, u11, rfl⟩
                      exact ⟨_, _, _, _, _, _, _, _, _, _, bl.x0 n9, rfl⟩
    · rintro σ H1 ⟨o2, o3, o4, o5, o6, o7, o8, o9, o10, o11, hb0, rfl⟩
      walk_at "go"
      exact k _
end
end Yk

set_option maxHeartbeats 0
namespace YkHead
open PySem PySem.Spec PyProof.Rows L2 Yk
theorem facts {P : Program} {w : World} {K : PySem.W.Frag} {h : Heap} {mg : Str → Option Value} {f : Addr} (X : K.In h) (G : h.Ns mainGlobals mg) (hfa : mg ("law" : Str) = some (.ref f)) (c0 : Hk.Says fa fn ex K) :
    ∃ fd : FuncData, (∀ (s : Shared) (v : Value), BindsTo s fd ⟨[v], []⟩ [("_law_script", v)]) ∧ ∀ base : Heap, K.In base → base.Ns mainGlobals mg → FnOk P w K mg base CX0 6 f fd ["_law_script"] (spLaw K) := by
  have c := c0
  have m : ex K = true := c0.more
  unfold ex at m
  try simp only [Bool.and_eq_true] at m
  have T0 : Bt mg := ⟨(He.free_ok X G (c.fact 43 (f := .free "int") rfl)), (He.free_ok X G (c.fact 45 (f := .free "len") rfl)), (He.free_ok X G (c.fact 46 (f := .free "list") rfl)), (He.free_ok X G (c.fact 52 (f := .free "tuple") rfl)), (He.free_ok X G (c.fact 50 (f := .free "str") rfl)), (He.free_ok X G (c.fact 41 (f := .free "bool") rfl)), (He.free_ok X G (c.fact 47 (f := .free "max") rfl)), (He.free_ok X G (c.fact 48 (f := .free "min") rfl)), (He.free_ok X G (c.fact 39 (f := .free "all") rfl)), (He.free_ok X G (c.fact 40 (f := .free "any") rfl)), (He.free_ok X G (c.fact 51 (f := .free "sum") rfl)), (He.free_ok X G (c.fact 44 (f := .free "isinstance") rfl)), (He.free_ok X G (c.fact 53 (f := .free "zip") rfl)), (He.free_ok X G (c.fact 49 (f := .free "range") rfl)), (He.free_ok X G (c.fact 42 (f := .free "divmod") rfl))⟩
  have i_TEXT_DIGITS := He.int_ok X G (c.fact 54 (f := .int "TEXT_DIGITS" 400) rfl)
  have T1 : Bg mg := ⟨T0, PySem.W.mg_of X G (He.eqO_ok m.1.1)⟩
  have tup_ZERO : ∃ z, mg "ZERO" = some (.ref z) ∧ ∀ H, SqT K H z [.int 0, .int 1] := ⟨He.ga K "ZERO", PySem.W.mg_of X G (He.eqO_ok m.1.2), fun H => He.tupB_ok m.2 H⟩
  obtain ⟨d_added, D_added⟩ := c.def_ 6 (d := dD "_added" 15) rfl
  obtain ⟨d_product, D_product⟩ := c.def_ 9 (d := dD "_product" 18) rfl
  obtain ⟨d_times, D_times⟩ := c.def_ 7 (d := dD "times" 16) rfl
  obtain ⟨d_compare, D_compare⟩ := c.def_ 10 (d := dD "compare" 19) rfl
  obtain ⟨d_minus, D_minus⟩ := c.def_ 5 (d := dD "minus" 14) rfl
  obtain ⟨d_over, D_over⟩ := c.def_ 8 (d := dD "over" 17) rfl
  obtain ⟨d_plus, D_plus⟩ := c.def_ 4 (d := dD "plus" 13) rfl
  obtain ⟨d_smallest, D_smallest⟩ := c.def_ 11 (d := dD "smallest" 20) rfl
  obtain ⟨d_largest, D_largest⟩ := c.def_ 12 (d := dD "largest" 21) rfl
  obtain ⟨d_law_pair, D_law_pair⟩ := c.def_ 19 (d := dD "_law_pair" 29) rfl
  obtain ⟨d_law_more, D_law_more⟩ := c.def_ 20 (d := dD "_law_more" 30) rfl
  obtain ⟨d_law_add, D_law_add⟩ := c.def_ 21 (d := dD "_law_add" 31) rfl
  obtain ⟨d_law_mul, D_law_mul⟩ := c.def_ 22 (d := dD "_law_mul" 32) rfl
  obtain ⟨d_law_div, D_law_div⟩ := c.def_ 23 (d := dD "_law_div" 33) rfl
  obtain ⟨d_law_min, D_law_min⟩ := c.def_ 24 (d := dD "_law_min" 34) rfl
  obtain ⟨d_law_max, D_law_max⟩ := c.def_ 25 (d := dD "_law_max" 35) rfl
  obtain ⟨d_law_order, D_law_order⟩ := c.def_ 35 (d := dD "_law_order" 45) rfl
  obtain ⟨d_law_sum, D_law_sum⟩ := c.def_ 26 (d := dD "_law_sum" 36) rfl
  obtain ⟨d_law_draw, D_law_draw⟩ := c.def_ 16 (d := dD "_law_draw" 26) rfl
  obtain ⟨d_law_bag, D_law_bag⟩ := c.def_ 15 (d := dD "_law_bag" 25) rfl
  obtain ⟨d_law_of, D_law_of⟩ := c.def_ 17 (d := dD "_law_of" 27) rfl
  obtain ⟨d_law_great, D_law_great⟩ := c.def_ 28 (d := dD "_law_great" 38) rfl
  obtain ⟨d_law_bit, D_law_bit⟩ := c.def_ 30 (d := dD "_law_bit" 40) rfl
  obtain ⟨d_law_amount, D_law_amount⟩ := c.def_ 29 (d := dD "_law_amount" 39) rfl
  obtain ⟨d_law_mixed, D_law_mixed⟩ := c.def_ 31 (d := dD "_law_mixed" 41) rfl
  obtain ⟨d_law_sums, D_law_sums⟩ := c.def_ 32 (d := dD "_law_sums" 42) rfl
  obtain ⟨d_law_ends, D_law_ends⟩ := c.def_ 33 (d := dD "_law_ends" 43) rfl
  obtain ⟨d_law_grouped, D_law_grouped⟩ := c.def_ 34 (d := dD "_law_grouped" 44) rfl
  obtain ⟨d_law_like, D_law_like⟩ := c.def_ 18 (d := dD "_law_like" 28) rfl
  obtain ⟨d_number_text, D_number_text⟩ := c.def_ 1 (d := dD "number_text" 3) rfl
  obtain ⟨d_is_number, D_is_number⟩ := c.def_ 0 (d := dD "is_number" 2) rfl
  obtain ⟨d_is_amount, D_is_amount⟩ := c.def_ 3 (d := dD "is_amount" 12) rfl
  obtain ⟨d_read_number, D_read_number⟩ := c.def_ 2 (d := dD "read_number" 4) rfl
  obtain ⟨d_amount_text, D_amount_text⟩ := c.def_ 13 (d := dD "amount_text" 22) rfl
  obtain ⟨d_law_show, D_law_show⟩ := c.def_ 27 (d := dD "_law_show" 37) rfl
  obtain ⟨d_read_amount, D_read_amount⟩ := c.def_ 14 (d := dD "read_amount" 23) rfl
  obtain ⟨d_law_three_so, D_law_three_so⟩ := c.def_ 36 (d := dD "_law_three_so" 46) rfl
  obtain ⟨d_law, D_law⟩ := c.def_ 37 (d := dD "law" 47) rfl
  have e := hfa.symm.trans (He.glo_ok X G (c.fact 37 (f := .glo "law") rfl))
  cases e
  refine ⟨d_law, fun s v => (FunD.bindsA (ps := ["_law_script"]) D_law fun _ _ _ _ _ _ us hl => match us, hl with | [_], _ => rfl) s [v] rfl, fun base _ _ => ?_⟩
  have F_added := f_added (P := P) (w := w) (base := base) D_added (He.glo_ok X G (c.fact 6 (f := .glo "_added") rfl)) T1
  have F_product := f_product (P := P) (w := w) (base := base) D_product (He.glo_ok X G (c.fact 9 (f := .glo "_product") rfl)) T1
  have Ftimes := f_times (P := P) (w := w) (base := base) D_times (He.glo_ok X G (c.fact 7 (f := .glo "times") rfl)) F_product
  have Fcompare := f_compare (P := P) (w := w) (base := base) D_compare (He.glo_ok X G (c.fact 10 (f := .glo "compare") rfl)) 
  have Fminus := f_minus (P := P) (w := w) (base := base) D_minus (He.glo_ok X G (c.fact 5 (f := .glo "minus") rfl)) Fcompare F_added
  have Fover := f_over (P := P) (w := w) (base := base) D_over (He.glo_ok X G (c.fact 8 (f := .glo "over") rfl)) tup_ZERO F_product
  have Fplus := f_plus (P := P) (w := w) (base := base) D_plus (He.glo_ok X G (c.fact 4 (f := .glo "plus") rfl)) tup_ZERO F_added
  have Fsmallest := f_smallest (P := P) (w := w) (base := base) D_smallest (He.glo_ok X G (c.fact 11 (f := .glo "smallest") rfl)) Fcompare
  have Flargest := f_largest (P := P) (w := w) (base := base) D_largest (He.glo_ok X G (c.fact 12 (f := .glo "largest") rfl)) Fcompare
  have F_law_pair := f_law_pair (P := P) (w := w) (base := base) D_law_pair (He.glo_ok X G (c.fact 19 (f := .glo "_law_pair") rfl)) T0
  have F_law_more := f_law_more (P := P) (w := w) (base := base) D_law_more (He.glo_ok X G (c.fact 20 (f := .glo "_law_more") rfl)) 
  have F_law_add := f_law_add (P := P) (w := w) (base := base) D_law_add (He.glo_ok X G (c.fact 21 (f := .glo "_law_add") rfl)) F_law_pair
  have F_law_mul := f_law_mul (P := P) (w := w) (base := base) D_law_mul (He.glo_ok X G (c.fact 22 (f := .glo "_law_mul") rfl)) F_law_pair
  have F_law_div := f_law_div (P := P) (w := w) (base := base) D_law_div (He.glo_ok X G (c.fact 23 (f := .glo "_law_div") rfl)) F_law_pair
  have F_law_min := f_law_min (P := P) (w := w) (base := base) D_law_min (He.glo_ok X G (c.fact 24 (f := .glo "_law_min") rfl)) F_law_more
  have F_law_max := f_law_max (P := P) (w := w) (base := base) D_law_max (He.glo_ok X G (c.fact 25 (f := .glo "_law_max") rfl)) F_law_more
  have F_law_order := f_law_order (P := P) (w := w) (base := base) D_law_order (He.glo_ok X G (c.fact 35 (f := .glo "_law_order") rfl)) F_law_more
  have F_law_sum := f_law_sum (P := P) (w := w) (base := base) D_law_sum (He.glo_ok X G (c.fact 26 (f := .glo "_law_sum") rfl)) F_law_add
  have F_law_draw := f_law_draw (P := P) (w := w) (base := base) D_law_draw (He.glo_ok X G (c.fact 16 (f := .glo "_law_draw") rfl)) T0
  have F_law_bag := f_law_bag (P := P) (w := w) (base := base) D_law_bag (He.glo_ok X G (c.fact 15 (f := .glo "_law_bag") rfl)) T0
  have F_law_of := f_law_of (P := P) (w := w) (base := base) D_law_of (He.glo_ok X G (c.fact 17 (f := .glo "_law_of") rfl)) T0 F_law_draw
  have F_law_great := f_law_great (P := P) (w := w) (base := base) D_law_great (He.glo_ok X G (c.fact 28 (f := .glo "_law_great") rfl)) F_law_draw F_law_of
  have F_law_bit := f_law_bit (P := P) (w := w) (base := base) D_law_bit (He.glo_ok X G (c.fact 30 (f := .glo "_law_bit") rfl)) F_law_draw F_law_of F_law_pair
  have F_law_amount := f_law_amount (P := P) (w := w) (base := base) D_law_amount (He.glo_ok X G (c.fact 29 (f := .glo "_law_amount") rfl)) T0 F_law_draw F_law_of F_law_pair F_law_great
  have F_law_mixed := f_law_mixed (P := P) (w := w) (base := base) D_law_mixed (He.glo_ok X G (c.fact 31 (f := .glo "_law_mixed") rfl)) T0 F_law_draw
  have F_law_sums := f_law_sums (P := P) (w := w) (base := base) D_law_sums (He.glo_ok X G (c.fact 32 (f := .glo "_law_sums") rfl)) T0 Fplus
  have F_law_ends := f_law_ends (P := P) (w := w) (base := base) D_law_ends (He.glo_ok X G (c.fact 33 (f := .glo "_law_ends") rfl)) T0 Fsmallest Flargest
  have F_law_grouped := f_law_grouped (P := P) (w := w) (base := base) D_law_grouped (He.glo_ok X G (c.fact 34 (f := .glo "_law_grouped") rfl)) T0 F_law_draw Fplus Ftimes
  have F_law_like0 : Fn P w K mg base 0 "_law_like" (spLike K 0) := fn_none D_law_like (He.glo_ok X G (c.fact 18 (f := .glo "_law_like") rfl))
  have F_law_like1 := f_law_like D_law_like (He.glo_ok X G (c.fact 18 (f := .glo "_law_like") rfl)) T0 0 F_law_like0
  have F_law_like2 := f_law_like D_law_like (He.glo_ok X G (c.fact 18 (f := .glo "_law_like") rfl)) T0 1 F_law_like1
  have F_law_like3 := f_law_like D_law_like (He.glo_ok X G (c.fact 18 (f := .glo "_law_like") rfl)) T0 2 F_law_like2
  have F_law_like4 := f_law_like D_law_like (He.glo_ok X G (c.fact 18 (f := .glo "_law_like") rfl)) T0 3 F_law_like3
  have F_law_like := F_law_like4
  have Fnumber_text := f_number_text (P := P) (w := w) (base := base) D_number_text (He.glo_ok X G (c.fact 1 (f := .glo "number_text") rfl)) T0
  have Fis_number := f_is_number (P := P) (w := w) (base := base) D_is_number (He.glo_ok X G (c.fact 0 (f := .glo "is_number") rfl)) T0
  have Fis_amount := f_is_amount (P := P) (w := w) (base := base) D_is_amount (He.glo_ok X G (c.fact 3 (f := .glo "is_amount") rfl)) T1 Fis_number
  have Fread_number := f_read_number (P := P) (w := w) (base := base) D_read_number (He.glo_ok X G (c.fact 2 (f := .glo "read_number") rfl)) T0
  have Famount_text := f_amount_text (P := P) (w := w) (base := base) D_amount_text (He.glo_ok X G (c.fact 13 (f := .glo "amount_text") rfl)) Fnumber_text
  have F_law_show := f_law_show (P := P) (w := w) (base := base) D_law_show (He.glo_ok X G (c.fact 27 (f := .glo "_law_show") rfl)) T0
  have Fread_amount := f_read_amount (P := P) (w := w) (base := base) D_read_amount (He.glo_ok X G (c.fact 14 (f := .glo "read_amount") rfl)) T0 i_TEXT_DIGITS Fread_number Fis_amount
  have F_law_three_so := f_law_three_so (P := P) (w := w) (base := base) D_law_three_so (He.glo_ok X G (c.fact 36 (f := .glo "_law_three_so") rfl)) Fplus Ftimes Fover Fminus Fcompare F_law_like F_law_add F_law_mul F_law_div F_law_order
  exact f_law (P := P) (w := w) (base := base) D_law (He.glo_ok X G (c.fact 37 (f := .glo "law") rfl)) T0 F_law_bag F_law_draw F_law_of F_law_amount F_law_bit F_law_sum F_law_mul F_law_min F_law_max F_law_sums F_law_mixed F_law_grouped F_law_like F_law_ends F_law_three_so F_law_show Famount_text Fread_amount Fis_amount
end YkHead
open PySem PySem.W PySem.Calls PyProof.Rows in
theorem PySem.Challenge.cw_bandheld_k71_whole_amounts_obey_holds : PySem.Challenge.rw_bandheld_k71_whole_amounts_obey.Holds := by
  w_on; o_law
  refine HandSHeadRun.head_imp (r := OpenLaw.row PySem.Challenge.rw_bandheld_k71_whole_amounts_obey) (q := view (OpenLaw.row PySem.Challenge.rw_bandheld_k71_whole_amounts_obey).prog [0, 47]) (H := YkHead.hk) (ob := YkHead.ob) (M := 8000) (loose := YkHead.loose) (d := HandSHeadRun.topDef (OpenLaw.row PySem.Challenge.rw_bandheld_k71_whole_amounts_obey).prog 47) (kwd := []) YkHead.ob_eq YkHead.run
    (by kernel_rfl) (by kernel_rfl) (by kernel_rfl) (by rfl) (by first | assumption | decide +kernel) (by decide +kernel) ⟨rfl, rfl, rfl, rfl, rfl, by decide +kernel⟩ ?hw ?hc
  case hw => w_witness2
  case hc =>
    refine L2.walk_ofE (l := PySem.Challenge.rw_bandheld_k71_whole_amounts_obey) (n := 63) (k := 6) (x := "_law_script") (CX := L2.CX0) rfl (by decide) (by kernel_rfl) ⟨rfl, by decide, by decide⟩ ?F (fun _ _ _ _ z => z)
    intro w mg fa h Y G hmg0
    obtain ⟨K, KX, c⟩ := Y
    have hmg : mg ("law" : PySem.Str) = some (.ref fa) := by
      have e : (HandSHeadRun.topDef (OpenLaw.row PySem.Challenge.rw_bandheld_k71_whole_amounts_obey).prog 47).name = ("law" : PySem.Str) := by kernel_rfl
      rw [← e]
      exact hmg0
    obtain ⟨fd, hb, hF⟩ := YkHead.facts (P := (PySem.Challenge.rw_bandheld_k71_whole_amounts_obey).prog) (w := w) KX G hmg c
    exact ⟨K, fd, Yk.spLaw K, KX, hb, fun H a ns hl _ hS => ⟨a, ns, rfl, hS, hl, fun _ => rfl⟩, hF⟩

