import PyProof.Rows.All
import Wide.All
import OpenK.AllK
import Wide.FinOn
import HandS.ForMost
import HandS.Defaults
import HandS.Star
import HandS.Gcd
import HandS.Wide
import HandS.HeadHook4
import HandS.NoneIn
import HandS.IsInst
import HandS.Zip
import HandS.HeadEnd
import HandS.Head3
import HandS.Property
import HandS.MakeKw
import HandS.MakeKwOnly
import HandS.More
import HandS.ClsMeth
import HandS.Text
import HandS.StrMore
import HandS.FStr
import HandS.Style
import HandS.WideBits
import HandS.DictComp
import HandS.Walk
import HandS.Strs
import HandS.OwnEq
import HandS.Replace
import PySem.Challenge.RW_bandheld_k80_whole_windows_by_parts
set_option Elab.async false
set_option linter.all false
set_option maxRecDepth 100000
set_option maxHeartbeats 1000000
/-! The layer over the hand layer: what is kept from heap to heap, amounts as rational numbers, readings step by step. -/
namespace Yk
open PySem PySem.Spec PyProof.Rows L2

/-! ### what is kept: all that is tracked, but what stands at S -/
def Ext (S : List Addr) (H H' : Hp) : Prop := ∀ a o, H a = some o → a ∉ S → H' a = some o
theorem Ext.refl {S : List Addr} {H : Hp} : Ext S H H := fun _ _ h _ => h
theorem Ext.trans {S : List Addr} {H H1 H2 : Hp} (a : Ext S H H1) (b : Ext S H1 H2) : Ext S H H2 := fun x o h n => b x o (a x o h n) n
theorem Ext.mono {S T : List Addr} {H H1 : Hp} (a : Ext S H H1) (h : ∀ x ∈ S, x ∈ T) : Ext T H H1 := fun x o e n => a x o e fun z => n (h x z)
theorem Ext.of0 {T : List Addr} {H H1 : Hp} (a : Ext [] H H1) : Ext T H H1 := a.mono fun _ z => nomatch z
theorem Ext.new {S : List Addr} {H H1 : Hp} {p : Addr} {o : HO} (e : Ext S H H1) (h : H1 p = none) : Ext S H (upd H1 p o) := fun a u ha n => by
  have h1 := e a u ha n
  rw [upd_ne (ne_of_none h1 h)]
  exact h1
theorem Ext.at_ {S : List Addr} {H H1 : Hp} {p : Addr} {o : HO} (e : Ext S H H1) (h : p ∈ S) : Ext S H (upd H1 p o) := fun a u ha n => by
  have h1 : a ≠ p := fun z => n (by rw [z]; exact h)
  rw [upd_ne h1]
  exact e a u ha n
/-- what is new to H may change -/
theorem Ext.own {S : List Addr} {H H1 : Hp} {p : Addr} {o : HO} (e : Ext S H H1) (h : H p = none) : Ext S H (upd H1 p o) := fun a u ha n => by
  rw [upd_ne (ne_of_none ha h)]
  exact e a u ha n
theorem Ext.free {H H1 : Hp} (e : Ext [] H H1) {p : Addr} (h : H1 p = none) : H p = none := by
  cases h1 : H p with
  | none => rfl
  | some o =>
    rw [e p o h1 (fun z => nomatch z)] at h
    cases h
theorem Ext.freeS {S : List Addr} {H H1 : Hp} (e : Ext S H H1) {p : Addr} (h : H1 p = none) (hs : ∀ a ∈ S, H1 a ≠ none) : H p = none := by
  cases h1 : H p with
  | none => rfl
  | some o =>
    rw [e p o h1 (fun z => hs p z h)] at h
    cases h

/-- the tuple at a, the list at a, carried on -/
theorem tupX {S : List Addr} {K : PySem.W.Frag} {H H1 : Hp} {a : Addr} {xs : List V} (e : Ext S H H1) (h : SqT K H a xs) (hs : ∀ b ∈ S, ∃ l, H b = some (.lst l)) : SqT K H1 a xs := by
  rcases h with (h | ⟨o, h⟩) | h
  · exact .inl (.inl (e a _ h fun z => by obtain ⟨l, q⟩ := hs a z; rw [h] at q; cases q))
  · exact .inl (.inr ⟨o, e a _ h fun z => by obtain ⟨l, q⟩ := hs a z; rw [h] at q; cases q⟩)
  · exact .inr h
theorem tup0 {K : PySem.W.Frag} {H H1 : Hp} {a : Addr} {xs : List V} (e : Ext [] H H1) (h : SqT K H a xs) : SqT K H1 a xs := tupX e h fun _ z => nomatch z
theorem tupN {K : PySem.W.Frag} {H : Hp} {a p : Addr} {o : HO} {xs : List V} (h : SqT K H a xs) (hp : H p = none) : SqT K (upd H p o) a xs := tup0 (Ext.refl.new hp) h
theorem tupW {K : PySem.W.Frag} {H : Hp} {a p : Addr} {l l' : List V} {xs : List V} (h : SqT K H a xs) (hp : H p = some (.lst l)) : SqT K (upd H p (.lst l')) a xs :=
  tupX (S := [p]) (Ext.refl.at_ List.mem_cons_self) h fun b hb => by rw [List.mem_singleton.mp hb]; exact ⟨l, hp⟩
theorem tupS {K : PySem.W.Frag} {H : Hp} {p : Addr} {xs : List V} : SqT K (upd H p (.tup xs)) p xs := .inl (.inl upd_same)
theorem lstX {S : List Addr} {K : PySem.W.Frag} {H H1 : Hp} {a : Addr} {xs : List V} (e : Ext S H H1) (h : SqL K H a xs) (hs : a ∉ S) : SqL K H1 a xs := by
  rcases h with (h | ⟨o, h⟩) | h
  · exact .inl (.inl (e a _ h hs))
  · exact .inl (.inr ⟨o, e a _ h hs⟩)
  · exact .inr h
theorem lst0 {K : PySem.W.Frag} {H H1 : Hp} {a : Addr} {xs : List V} (e : Ext [] H H1) (h : SqL K H a xs) : SqL K H1 a xs := lstX e h fun z => nomatch z
theorem lstN {K : PySem.W.Frag} {H : Hp} {a p : Addr} {o : HO} {xs : List V} (h : SqL K H a xs) (hp : H p = none) : SqL K (upd H p o) a xs := lst0 (Ext.refl.new hp) h
theorem lstS {K : PySem.W.Frag} {H : Hp} {p : Addr} {xs : List V} : SqL K (upd H p (.lst xs)) p xs := .inl (.inl upd_same)

/-! ### a def by its name -/
section
variable (P : Program) (w : World) (K : PySem.W.Frag) (mg : Str → Option Value) (base : Heap)
structure Fn (k : Nat) (x : Str) (sp : Sp) : Prop where
  run : ∃ f, mg x = some (.ref f) ∧ PySem.W.keepIn K (.ref f) = true ∧ FnR P w K mg base CX0 k f sp
end
section
variable {X : Cx} {k : Nat} {sp : Sp} {x : Str} {p pos : Pos} {e : Expr} {es : List Expr} {t : TA}
def tR (sp : Sp) (t : TA) : TE := fun σ H Q => t σ H fun vs H1 => sp vs H1 Q E0
theorem pe_fn (F : Fn X.prog X.w X.K X.mg X.base k x sp) (hr : Room k X.A) (ha : PA X (e :: es) t) (hg : Gl X x := by rfl) (hdb : (x == ("__debug__" : Str)) = false := by decide)
    (hx : Passes CX0 X E0 := by exact pass0)
    (he : starEach (e :: es) X.env = (false, eval e X.env) :: starEach es X.env := by rfl) (hpl : (backTo pos (starEach es X.env)).any (·.1) = false := by rfl) :
    PE X (.Call (.Name x p) (e :: es) [] pos) (tR sp t) := by
  obtain ⟨f, hm, hk, F⟩ := F.run
  refine ⟨fun pins s σ H Q I h => ?_⟩
  refine wpAny_Call_Name_kw (ld_glob I hg hm ?_ hdb)
  refine PySem.W.callWith_K (h₀ := X.base) I.ok.mod.kin hk (thn (ha.run pos pins s σ H _ I h) fun us s1 ⟨vs, H1, I1, r, q⟩ => ⟨I1.kIn, ?_⟩) he hpl
  exact wpAny_call (run_fnR F hr hx I1 r q)
theorem Fn.mono {P : Program} {w : World} {K : PySem.W.Frag} {mg : Str → Option Value} {base : Heap} {j k : Nat} {x : Str} {sp : Sp} (F : Fn P w K mg base j x sp) (h : j ≤ k) : Fn P w K mg base k x sp := by
  obtain ⟨f, hm, hk, F⟩ := F.run
  exact ⟨f, hm, hk, F.mono h⟩
end
/-- how a def of the text keeps a promise -/
theorem fn_def {P : Program} {w : World} {K : PySem.W.Frag} {mg : Str → Option Value} {base : Heap} {x : Str} {params : Arguments} {body : List Stmt} {scope : Scope} {f : Addr} {fd : FuncData} {N ps : List Str} {k : Nat} {sp : Sp}
    (F : FunD K x x params body scope [] [] f fd) (hm : mg x = some (.ref f)) (S : FnScope N ps scope) (len : ∀ vs H Q E, sp vs H Q E → vs.length = ps.length)
    (hb : ∀ (kV doc pm : Value) (an : Option Addr) (cdv ct : Value) (us : List Value), us.length = ps.length → bindArgs (PySem.W.fnOf x x params body scope .none kV doc pm an cdv ct) ⟨us, []⟩ = pure (ps.zip us))
    (hbody : ∀ (cdv : Value) (A : Around) (outer : List Env) (s : Shared) (H : Hp) (vs : List V) (Q : VK) (E : XK), Room k (A.deeper (envOfC x scope s.heap.objs.size f cdv)) → sp vs H Q E →
      ∃ t, PSs (cxOf CX0 P w K mg base N x scope f cdv A outer s H E).nox body t ∧ t ⟨fun _ H' => Q .non H', Q, fun _ _ => False, fun _ _ => False⟩ (start N vs) H) : Fn P w K mg base (k + 1) x sp := by
  have G : FnOk P w K mg base CX0 (k + 1) f fd ps sp := F.ok S len fun cdv A outer s H vs Q E hr h => by
    obtain ⟨t, h1, h2⟩ := hbody cdv A outer s H vs Q E hr h
    exact ⟨t, h1.nox, h2⟩
  have b := F.bindsN hb
  have R := G.raw b .nil
  refine ⟨f, hm, F.kp, R.imp fun vs H Q E h => ?_⟩
  rw [List.append_nil]
  exact h

/-! ### len, list by names -/
def rLn (K : PySem.W.Frag) : List V → Hp → VK → Prop := fun xs H Q => ∃ p ys, xs = [.ref p] ∧ (SqL K H p ys ∨ SqT K H p ys) ∧ Q (.int ys.length) H
def rLs (K : PySem.W.Frag) : List V → Hp → VK → Prop := fun xs H Q => ∃ p ys, xs = [.ref p] ∧ (SqL K H p ys ∨ SqT K H p ys) ∧ ∀ l, H l = none → Q (.ref l) (upd H l (.lst ys))
section
variable {X : Cx}
theorem cr_len : CallR X (.builtin "len") (rLn X.K) := call_len_seq
theorem cr_list : CallR X (.type "list") (rLs X.K) := call_list_of
end
/-! ### readings, one step each -/
section
variable {nx : L2.St → Hp → Prop} {rt : VK} {bk ct : L2.St → Hp → Prop} {σ : L2.St} {H : Hp} {K : PySem.W.Frag} {Q : VK} {t u : TS} {te ta tb : TE} {g : TG} {c : TT} {v x y : V}
theorem r_seq (h : t ⟨u ⟨nx, rt, bk, ct⟩, rt, bk, ct⟩ σ H) : tSeq t u ⟨nx, rt, bk, ct⟩ σ H := h
theorem r_next (h : nx σ H) : tNext ⟨nx, rt, bk, ct⟩ σ H := h
theorem r_asg (h : te σ H fun x H1 => g x σ H1 nx) : tAsg te g ⟨nx, rt, bk, ct⟩ σ H := h
theorem r_ret (h : te σ H rt) : tRet te ⟨nx, rt, bk, ct⟩ σ H := h
theorem r_drop (h : te σ H fun _ H1 => nx σ H1) : tDrop te ⟨nx, rt, bk, ct⟩ σ H := h
theorem r_ifS (h : c σ H fun b H1 => if b = true then t ⟨nx, rt, bk, ct⟩ σ H1 else u ⟨nx, rt, bk, ct⟩ σ H1) : tIfS c t u ⟨nx, rt, bk, ct⟩ σ H := h
theorem r_par {i j : Nat} {ta : TA} (h : ta σ H fun vs H1 => ∃ v w, vs = [v, w] ∧ nx ((σ.set i (some v)).set j (some w)) H1) : tPar i j ta ⟨nx, rt, bk, ct⟩ σ H := h
theorem r_name {i : Nat} {R : L2.St → Hp → Prop} (h : R (σ.set i (some v)) H) : gName i v σ H R := h
theorem r_gTup {n : Nat} {ts : TGs} {a : Addr} {xs : List V} {R : L2.St → Hp → Prop} (h1 : SqT K H a xs) (h2 : xs.length = n) (h : ts xs σ H R) : gTup K n ts (.ref a) σ H R := ⟨a, xs, rfl, h1, h2, h⟩
theorem r_gCons {ts : TGs} {vs : List V} {R : L2.St → Hp → Prop} (h : g v σ H fun σ' H' => ts vs σ' H' R) : gCons g ts (v :: vs) σ H R := ⟨v, vs, rfl, h⟩
theorem r_gNil {R : L2.St → Hp → Prop} (h : R σ H) : gNil [] σ H R := ⟨rfl, h⟩
theorem r_gSub {to ti : TE} {ts : TSet} {R : L2.St → Hp → Prop} (h : to σ H fun o H1 => ti σ H1 fun i H2 => ts o i v H2 fun H3 => R σ H3) : gSub to ti ts v σ H R := h
theorem r_var {i : Nat} (h1 : σ[i]? = some (some v)) (h : Q v H) : tVar i σ H Q := ⟨v, h1, h⟩
theorem r_c (h : Q v H) : tC v σ H Q := h
theorem r_op {r : R2} (h : ta σ H fun x H1 => tb σ H1 fun y H2 => r x y H2 Q) : tOp r ta tb σ H Q := h
theorem r_un {r : V → Hp → VK → Prop} (h : ta σ H fun x H1 => r x H1 Q) : tUn r ta σ H Q := h
theorem r_I0 {f : Int → Int → V} {i j : Int} (h : Q (f i j) H) : rI0 f (.int i) (.int j) H Q := ⟨i, j, rfl, rfl, h⟩
theorem r_I {C : Int → Int → Prop} {f : Int → Int → V} {i j : Int} (hc : C i j) (h : Q (f i j) H) : rI C f (.int i) (.int j) H Q := ⟨i, j, rfl, rfl, hc, h⟩
theorem r_U {f : Int → V} {i : Int} (h : Q (f i) H) : rU f (.int i) H Q := ⟨i, rfl, h⟩
theorem r_ixT {p : Addr} {xs : List V} {i : Int} (h1 : SqT K H p xs) (h2 : atI xs i = some v) (h : Q v H) : rIxT K (.ref p) (.int i) H Q := ⟨p, xs, i, v, rfl, rfl, h1, h2, h⟩
theorem r_ixL {p : Addr} {xs : List V} {i : Int} (h1 : SqL K H p xs) (h2 : atI xs i = some v) (h : Q v H) : rIxL K (.ref p) (.int i) H Q := ⟨p, xs, i, v, rfl, rfl, h1, h2, h⟩
theorem r_cons {t : TA} {R : List V → Hp → Prop} (h : ta σ H fun x H1 => t σ H1 fun xs H2 => R (x :: xs) H2) : tCons ta t σ H R := h
theorem r_nil {R : List V → Hp → Prop} (h : R [] H) : tNil σ H R := h
theorem r_tup {t : TA} (h : t σ H fun xs H1 => xs.length ≤ sizeLine ∧ ∀ p, H1 p = none → Q (.ref p) (upd H1 p (.tup xs))) : tTup t σ H Q := h
theorem r_lst {t : TA} (h : t σ H fun xs H1 => xs.length ≤ sizeLine ∧ ∀ p, H1 p = none → Q (.ref p) (upd H1 p (.lst xs))) : tLst t σ H Q := h
theorem r_CB {r : List V → Hp → VK → Prop} {t : TA} (h : t σ H fun vs H1 => r vs H1 Q) : tCB r t σ H Q := h
theorem r_R {sp : Sp} {t : TA} (h : t σ H fun vs H1 => sp vs H1 Q E0) : tR sp t σ H Q := h
theorem r_gcd {a b : Int} (h : Q (.int ((Nat.gcd a.natAbs b.natAbs : Nat) : Int)) H) : rGcd [.int a, .int b] H Q := ⟨a, b, rfl, h⟩
theorem r_test {R : Bool → Hp → Prop} (h : te σ H fun x H' => ∃ k, x = .bl k ∧ R k H') : tTest te σ H R := h
theorem r_B {R : Bool → Hp → Prop} (h : te σ H fun x H' => ∃ k, x = .bl k ∧ R k H') : tB te σ H R := h
theorem r_bl {b : Bool} {R : Bool → Prop} (h : R b) : ∃ k, V.bl b = .bl k ∧ R k := ⟨b, rfl, h⟩
theorem r_if (h : c σ H fun b H1 => if b = true then ta σ H1 Q else tb σ H1 Q) : tIf c ta tb σ H Q := h
theorem r_and {d : TT} {R : Bool → Hp → Prop} (h : c σ H fun b H1 => if b = true then d σ H1 R else R false H1) : tAnd c d σ H R := h
theorem r_or {d : TT} {R : Bool → Hp → Prop} (h : c σ H fun b H1 => if b = true then R true H1 else d σ H1 R) : tOr c d σ H R := h
theorem r_not {R : Bool → Hp → Prop} (h : c σ H fun b H1 => R (!b) H1) : tNot c σ H R := h
theorem r_eq (hs : scal x y = true) (h : Q (.bl (decide (x = y))) H) : rEq x y H Q := ⟨hs, h⟩
theorem r_ne (hs : scal x y = true) (h : Q (.bl (!decide (x = y))) H) : rNe x y H Q := ⟨hs, h⟩
theorem r_dec {p : Prop} [Decidable p] {A B : Prop} (h1 : p → A) (h2 : ¬ p → B) : if decide p = true then A else B := by
  by_cases hp : p
  · rw [decide_eq_true hp, if_pos rfl]; exact h1 hp
  · rw [decide_eq_false hp, if_neg (by decide)]; exact h2 hp
theorem r_forT {i : Nat} {a : Addr} {xs : List V} (h1 : σ[i]? = some (some (.ref a))) (h2 : SqT K H a xs) (Pv : Nat → L2.St → Hp → Prop) (h0 : Pv 0 σ H) (hl : ∀ i σ H, i ≤ xs.length → Pv i σ H → SqT K H a xs)
    (hs : ∀ i x σ H, xs[i]? = some x → Pv i σ H → g x σ H fun σ2 H2 => t ⟨Pv (i + 1), rt, nx, Pv (i + 1)⟩ σ2 H2) (hd : ∀ σ H, Pv xs.length σ H → nx σ H) : tFor (iTup K (tVar i)) g t ⟨nx, rt, bk, ct⟩ σ H :=
  ⟨_, h1, a, rfl, ⟨xs, h2⟩, for_tup Pv h0 hl hs hd⟩
theorem r_forL {i : Nat} {a : Addr} {xs : List V} (h1 : σ[i]? = some (some (.ref a))) (h2 : SqL K H a xs) (Pv : Nat → L2.St → Hp → Prop) (h0 : Pv 0 σ H) (hl : ∀ i σ H, i ≤ xs.length → Pv i σ H → SqL K H a xs)
    (hs : ∀ i x σ H, xs[i]? = some x → Pv i σ H → g x σ H fun σ2 H2 => t ⟨Pv (i + 1), rt, nx, Pv (i + 1)⟩ σ2 H2) (hd : ∀ σ H, Pv xs.length σ H → nx σ H) : tFor (iList K (tVar i)) g t ⟨nx, rt, bk, ct⟩ σ H :=
  ⟨_, h1, a, rfl, ⟨xs, h2⟩, for_list Pv h0 hl hs hd⟩
theorem r_for {wi : TI} (h : wi σ H fun J H1 => ∃ W : Nat → Nat → L2.St → Hp → Prop, (∃ m, W 0 m σ H1) ∧ ∀ i m σ H, W i m σ H →
  (J.stop i H ∧ nx σ H) ∨ (J.go i H ∧ ∃ N : L2.St → Hp → Prop, (∀ σ' H', N σ' H' → ∃ m', m' < m ∧ W (i + 1) m' σ' H') ∧ ∀ x H', J.yld i H x H' → g x σ H' fun σ2 H2 => t ⟨N, rt, nx, N⟩ σ2 H2)) : tFor wi g t ⟨nx, rt, bk, ct⟩ σ H := h
theorem r_iList {tl : TE} {R : It → Hp → Prop} (h : tl σ H fun x H1 => ∃ a, x = .ref a ∧ (∃ xs, SqL K H1 a xs) ∧ R (Itl K a) H1) : iList K tl σ H R := h
theorem r_iTup {tl : TE} {R : It → Hp → Prop} (h : tl σ H fun x H1 => ∃ a, x = .ref a ∧ (∃ xs, SqT K H1 a xs) ∧ R (Itt K a) H1) : iTup K tl σ H R := h
theorem r_iRng1 {ta : TA} {R : It → Hp → Prop} (h : ta σ H fun vs H1 => ∃ j : Int, vs = [.int j] ∧ -(2 ^ 62) ≤ j ∧ j < 2 ^ 62 ∧ R (Itr 0 j.toNat) H1) : iRng1 ta σ H R := h
theorem r_loopL {a : Addr} {xs : List V} (Pv : Nat → L2.St → Hp → Prop) (h0 : Pv 0 σ H) (hl : ∀ i σ H, i ≤ xs.length → Pv i σ H → SqL K H a xs)
    (hs : ∀ i x σ H, xs[i]? = some x → Pv i σ H → g x σ H fun σ2 H2 => t ⟨Pv (i + 1), rt, nx, Pv (i + 1)⟩ σ2 H2) (hd : ∀ σ H, Pv xs.length σ H → nx σ H) :
    ∃ W : Nat → Nat → L2.St → Hp → Prop, (∃ m, W 0 m σ H) ∧ ∀ i m σ H, W i m σ H →
      ((Itl K a).stop i H ∧ nx σ H) ∨ ((Itl K a).go i H ∧ ∃ N : L2.St → Hp → Prop, (∀ σ' H', N σ' H' → ∃ m', m' < m ∧ W (i + 1) m' σ' H') ∧ ∀ x H', (Itl K a).yld i H x H' → g x σ H' fun σ2 H2 => t ⟨N, rt, nx, N⟩ σ2 H2) :=
  for_list (D := ⟨nx, rt, nx, nx⟩) Pv h0 hl hs hd
theorem r_loopT {a : Addr} {xs : List V} (Pv : Nat → L2.St → Hp → Prop) (h0 : Pv 0 σ H) (hl : ∀ i σ H, i ≤ xs.length → Pv i σ H → SqT K H a xs)
    (hs : ∀ i x σ H, xs[i]? = some x → Pv i σ H → g x σ H fun σ2 H2 => t ⟨Pv (i + 1), rt, nx, Pv (i + 1)⟩ σ2 H2) (hd : ∀ σ H, Pv xs.length σ H → nx σ H) :
    ∃ W : Nat → Nat → L2.St → Hp → Prop, (∃ m, W 0 m σ H) ∧ ∀ i m σ H, W i m σ H →
      ((Itt K a).stop i H ∧ nx σ H) ∨ ((Itt K a).go i H ∧ ∃ N : L2.St → Hp → Prop, (∀ σ' H', N σ' H' → ∃ m', m' < m ∧ W (i + 1) m' σ' H') ∧ ∀ x H', (Itt K a).yld i H x H' → g x σ H' fun σ2 H2 => t ⟨N, rt, nx, N⟩ σ2 H2) :=
  for_tup (D := ⟨nx, rt, nx, nx⟩) Pv h0 hl hs hd
theorem r_loopR {lo : Int} {n : Nat} (Pv : Nat → L2.St → Hp → Prop) (h0 : Pv 0 σ H)
    (hs : ∀ i σ H, i < n → Pv i σ H → g (.int (lo + i)) σ H fun σ2 H2 => t ⟨Pv (i + 1), rt, nx, Pv (i + 1)⟩ σ2 H2) (hd : ∀ σ H, Pv n σ H → nx σ H) :
    ∃ W : Nat → Nat → L2.St → Hp → Prop, (∃ m, W 0 m σ H) ∧ ∀ i m σ H, W i m σ H →
      ((Itr lo n).stop i H ∧ nx σ H) ∨ ((Itr lo n).go i H ∧ ∃ N : L2.St → Hp → Prop, (∀ σ' H', N σ' H' → ∃ m', m' < m ∧ W (i + 1) m' σ' H') ∧ ∀ x H', (Itr lo n).yld i H x H' → g x σ H' fun σ2 H2 => t ⟨N, rt, nx, N⟩ σ2 H2) :=
  for_range (D := ⟨nx, rt, nx, nx⟩) Pv h0 hs hd
theorem r_gUnl {n : Nat} {ts : TGs} {a : Addr} {xs : List V} {R : L2.St → Hp → Prop} (h1 : SqL K H a xs) (h2 : xs.length = n) (h : ts xs σ H R) : gUnl K n ts (.ref a) σ H R := ⟨a, xs, rfl, h1, h2, h⟩
theorem r_BM {T : String} {r : V → List V → Hp → VK → Prop} {to : TE} {ta : TA} (h : to σ H fun x H1 => tyV K T x H1 ∧ ta σ H1 fun xs H2 => r x xs H2 Q) : tBM K T r to ta σ H Q := h
theorem r_BM0 {T : String} {r : V → List V → Hp → VK → Prop} {to : TE} (h : to σ H fun x H1 => tyV K T x H1 ∧ r x [] H1 Q) : tBM0 K T r to σ H Q := h
theorem r_lc {wi : TI} {g : TG} {tt : TT} {te : TE} {vs : List Nat} (h : wi σ H fun J H1 => ∀ D, H1 D = none → ∃ W : Nat → Nat → Hp → Prop, (∃ m, W 0 m (upd H1 D (.lst []))) ∧ ∀ i m H, W i m H →
  (J.stop i H ∧ Q (.ref D) H) ∨ (J.go i H ∧ ∃ Nx : Hp → Prop, (∀ H', Nx H' → ∃ m', m' < m ∧ W (i + 1) m' H') ∧ ∀ x H', J.yld i H x H' → g x (wipe σ vs) H' fun σ2 H2 => wipe σ2 vs = wipe σ vs ∧ tt σ2 H2 fun b H3 =>
    if b = true then te σ2 H3 fun y H4 => ∃ acc, H4 D = some (.lst acc) ∧ acc.length < sizeLine ∧ Nx (upd H4 D (.lst (acc ++ [y]))) else Nx H3)) : tLc wi g tt te vs σ H Q := h
theorem r_yes {R : Bool → Hp → Prop} (h : R true H) : tYes σ H R := h
theorem r_tt {A B : Prop} (h : A) : if true = true then A else B := by rw [if_pos rfl]; exact h
theorem r_popAt {l : Addr} {xs : List V} {i : Int} {k : Nat} {y : V} (h1 : H l = some (.lst xs)) (h2 : i = (k : Int)) (h3 : xs[k]? = some y) (h4 : xs.length ≤ 4000) (h : Q y (upd H l (.lst (xs.eraseIdx k)))) : rPopAt (.ref l) [.int i] H Q := by
  have hk : k < xs.length := (List.getElem?_eq_some_iff.mp h3).1
  have e : ixN xs.length i = some k := by
    unfold ixN
    rw [if_pos (by omega), if_pos (by omega), h2, Int.toNat_natCast]
  exact ⟨l, xs, i, k, y, rfl, rfl, h1, by omega, by omega, (ixN_seq e).1, h3, h⟩
theorem r_lcR {lo : Int} {n : Nat} {g : TG} {tt : TT} {te : TE} {vs : List Nat} {D : Addr} {Qd : Hp → Prop} (Pv : Nat → Hp → Prop) (h0 : Pv 0 (upd H D (.lst [])))
    (hs : ∀ i H, i < n → Pv i H → g (.int (lo + i)) (wipe σ vs) H fun σ2 H2 => wipe σ2 vs = wipe σ vs ∧ tt σ2 H2 fun b H3 =>
      if b = true then te σ2 H3 fun y H4 => ∃ acc, H4 D = some (.lst acc) ∧ acc.length < sizeLine ∧ Pv (i + 1) (upd H4 D (.lst (acc ++ [y]))) else Pv (i + 1) H3) (hd : ∀ H, Pv n H → Qd H) :
    ∃ W : Nat → Nat → Hp → Prop, (∃ m, W 0 m (upd H D (.lst []))) ∧ ∀ i m H, W i m H →
      ((Itr lo n).stop i H ∧ Qd H) ∨ ((Itr lo n).go i H ∧ ∃ Nx : Hp → Prop, (∀ H', Nx H' → ∃ m', m' < m ∧ W (i + 1) m' H') ∧ ∀ x H', (Itr lo n).yld i H x H' → g x (wipe σ vs) H' fun σ2 H2 => wipe σ2 vs = wipe σ vs ∧ tt σ2 H2 fun b H3 =>
        if b = true then te σ2 H3 fun y H4 => ∃ acc, H4 D = some (.lst acc) ∧ acc.length < sizeLine ∧ Nx (upd H4 D (.lst (acc ++ [y]))) else Nx H3) :=
  lc_range (Qd := Qd) Pv h0 hs hd
theorem r_lcL {a : Addr} {xs : List V} {g : TG} {tt : TT} {te : TE} {vs : List Nat} {D : Addr} {Qd : Hp → Prop} (Pv : Nat → Hp → Prop) (h0 : Pv 0 (upd H D (.lst []))) (hl : ∀ i H, i ≤ xs.length → Pv i H → SqL K H a xs)
    (hs : ∀ i x H, xs[i]? = some x → Pv i H → g x (wipe σ vs) H fun σ2 H2 => wipe σ2 vs = wipe σ vs ∧ tt σ2 H2 fun b H3 =>
      if b = true then te σ2 H3 fun y H4 => ∃ acc, H4 D = some (.lst acc) ∧ acc.length < sizeLine ∧ Pv (i + 1) (upd H4 D (.lst (acc ++ [y]))) else Pv (i + 1) H3) (hd : ∀ H, Pv xs.length H → Qd H) :
    ∃ W : Nat → Nat → Hp → Prop, (∃ m, W 0 m (upd H D (.lst []))) ∧ ∀ i m H, W i m H →
      ((Itl K a).stop i H ∧ Qd H) ∨ ((Itl K a).go i H ∧ ∃ Nx : Hp → Prop, (∀ H', Nx H' → ∃ m', m' < m ∧ W (i + 1) m' H') ∧ ∀ x H', (Itl K a).yld i H x H' → g x (wipe σ vs) H' fun σ2 H2 => wipe σ2 vs = wipe σ vs ∧ tt σ2 H2 fun b H3 =>
        if b = true then te σ2 H3 fun y H4 => ∃ acc, H4 D = some (.lst acc) ∧ acc.length < sizeLine ∧ Nx (upd H4 D (.lst (acc ++ [y]))) else Nx H3) :=
  lc_list (Qd := Qd) Pv h0 hl hs hd
theorem r_true {c : Bool} {A B : Prop} (hc : c = true) (h : A) : if c = true then A else B := by rw [if_pos hc]; exact h
theorem r_false {c : Bool} {A B : Prop} (hc : c = false) (h : B) : if c = true then A else B := by rw [hc, if_neg (by decide)]; exact h
theorem len_is {n : Nat} {k : Int} (h : (n : Int) = k) : decide (V.int (n : Int) = V.int k) = true := decide_eq_true (by rw [h])
theorem len_not {n : Nat} {k : Int} (h : (n : Int) ≠ k) : decide (V.int (n : Int) = V.int k) = false := decide_eq_false fun z => h (V.int.inj z)
theorem r_lcZL {a b : Addr} {xs ys : List V} {g : TG} {tt : TT} {te : TE} {vs : List Nat} {D : Addr} {Qd : Hp → Prop} (hl : xs.length = ys.length) (Pv : Nat → Hp → Prop) (h0 : Pv 0 (upd H D (.lst []))) (hq : ∀ i H, Pv i H → SqL K H a xs ∧ SqL K H b ys)
    (hs : ∀ (i : Nat) (x y : V) (T : Addr) (H : Hp), xs[i]? = some x → ys[i]? = some y → Pv i H → H T = none → g (.ref T) (wipe σ vs) (upd H T (.tup [x, y])) fun σ2 H2 => wipe σ2 vs = wipe σ vs ∧ tt σ2 H2 fun b H3 =>
      if b = true then te σ2 H3 fun y H4 => ∃ acc, H4 D = some (.lst acc) ∧ acc.length < sizeLine ∧ Pv (i + 1) (upd H4 D (.lst (acc ++ [y]))) else Pv (i + 1) H3) (hd : ∀ H, Pv xs.length H → Qd H) :
    ∃ W : Nat → Nat → Hp → Prop, (∃ m, W 0 m (upd H D (.lst []))) ∧ ∀ i m H, W i m H →
      ((Itz K a b).stop i H ∧ Qd H) ∨ ((Itz K a b).go i H ∧ ∃ Nx : Hp → Prop, (∀ H', Nx H' → ∃ m', m' < m ∧ W (i + 1) m' H') ∧ ∀ x H', (Itz K a b).yld i H x H' → g x (wipe σ vs) H' fun σ2 H2 => wipe σ2 vs = wipe σ vs ∧ tt σ2 H2 fun b H3 =>
        if b = true then te σ2 H3 fun y H4 => ∃ acc, H4 D = some (.lst acc) ∧ acc.length < sizeLine ∧ Nx (upd H4 D (.lst (acc ++ [y]))) else Nx H3) := by
  refine ⟨fun i m H => m = xs.length - i ∧ i ≤ xs.length ∧ Pv i H, ⟨xs.length, rfl, Nat.zero_le _, h0⟩, ?_⟩
  rintro i m H ⟨rfl, hi, p⟩
  obtain ⟨qx, qy⟩ := hq i H p
  by_cases hlt : i < xs.length
  · have hx : xs[i]? = some xs[i] := List.getElem?_eq_getElem hlt
    have hlt2 : i < ys.length := by omega
    have hy : ys[i]? = some ys[i] := List.getElem?_eq_getElem hlt2
    refine .inr ⟨⟨xs, ys, _, _, qx, qy, hx, hy⟩, Pv (i + 1), fun H' p' => ⟨xs.length - (i + 1), by omega, rfl, hlt, p'⟩, fun v H' y => ?_⟩
    obtain ⟨T, x', y', rfl, hT, rfl, f1, f2⟩ := y
    exact hs i x' y' T _ (f1 xs qx) (f2 ys qy) p hT
  · have e : i = xs.length := by omega
    subst e
    exact .inl ⟨⟨xs, ys, qx, qy, .inl (Nat.le_refl _)⟩, hd H p⟩
theorem r_lcZT {a b : Addr} {xs ys : List V} {g : TG} {tt : TT} {te : TE} {vs : List Nat} {D : Addr} {Qd : Hp → Prop} (hl : xs.length = ys.length) (Pv : Nat → Hp → Prop) (h0 : Pv 0 (upd H D (.lst []))) (hq : ∀ i H, Pv i H → SqT K H a xs ∧ SqT K H b ys)
    (hs : ∀ (i : Nat) (x y : V) (T : Addr) (H : Hp), xs[i]? = some x → ys[i]? = some y → Pv i H → H T = none → g (.ref T) (wipe σ vs) (upd H T (.tup [x, y])) fun σ2 H2 => wipe σ2 vs = wipe σ vs ∧ tt σ2 H2 fun b H3 =>
      if b = true then te σ2 H3 fun y H4 => ∃ acc, H4 D = some (.lst acc) ∧ acc.length < sizeLine ∧ Pv (i + 1) (upd H4 D (.lst (acc ++ [y]))) else Pv (i + 1) H3) (hd : ∀ H, Pv xs.length H → Qd H) :
    ∃ W : Nat → Nat → Hp → Prop, (∃ m, W 0 m (upd H D (.lst []))) ∧ ∀ i m H, W i m H →
      ((RZ.ItzT K a b).stop i H ∧ Qd H) ∨ ((RZ.ItzT K a b).go i H ∧ ∃ Nx : Hp → Prop, (∀ H', Nx H' → ∃ m', m' < m ∧ W (i + 1) m' H') ∧ ∀ x H', (RZ.ItzT K a b).yld i H x H' → g x (wipe σ vs) H' fun σ2 H2 => wipe σ2 vs = wipe σ vs ∧ tt σ2 H2 fun b H3 =>
        if b = true then te σ2 H3 fun y H4 => ∃ acc, H4 D = some (.lst acc) ∧ acc.length < sizeLine ∧ Nx (upd H4 D (.lst (acc ++ [y]))) else Nx H3) := by
  refine ⟨fun i m H => m = xs.length - i ∧ i ≤ xs.length ∧ Pv i H, ⟨xs.length, rfl, Nat.zero_le _, h0⟩, ?_⟩
  rintro i m H ⟨rfl, hi, p⟩
  obtain ⟨qx, qy⟩ := hq i H p
  by_cases hlt : i < xs.length
  · have hx : xs[i]? = some xs[i] := List.getElem?_eq_getElem hlt
    have hlt2 : i < ys.length := by omega
    have hy : ys[i]? = some ys[i] := List.getElem?_eq_getElem hlt2
    refine .inr ⟨⟨xs, ys, _, _, qx, qy, hx, hy⟩, Pv (i + 1), fun H' p' => ⟨xs.length - (i + 1), by omega, rfl, hlt, p'⟩, fun v H' y => ?_⟩
    obtain ⟨T, x', y', rfl, hT, rfl, f1, f2⟩ := y
    exact hs i x' y' T _ (f1 xs qx) (f2 ys qy) p hT
  · have e : i = xs.length := by omega
    subst e
    exact .inl ⟨⟨xs, ys, qx, qy, .inl (Nat.le_refl _)⟩, hd H p⟩
theorem tyT {a : Addr} {xs : List V} (h : SqT K H a xs) : TyX K H (.ref a) (.type "tuple") := by
  rcases h with (h | ⟨o, h⟩) | ⟨o, its, n, h, c, _⟩
  · exact .base (.tup h)
  · exact .fTuple h
  · exact .kTuple h c
theorem tyL {a : Addr} {xs : List V} (h : SqL K H a xs) : TyX K H (.ref a) (.type "list") := by
  rcases h with (h | ⟨o, h⟩) | ⟨o, its, n, h, c, _⟩
  · exact .base (.lst h)
  · exact .base (.frz h)
  · exact .kList h c
theorem r_isi {T c : String} {b : Bool} (ht : TyX K H x (.type T)) (he : PySem.W.kitOne K (.type T) (.type c) = some b) (h : Q (.bl b) H) : rIsi K [x, .ty c] H Q := ⟨x, .ty c, .type T, .type c, b, rfl, .ty c, ht, he, h⟩
theorem r_isiT {T c1 c2 : String} {b : Bool} {p : Addr} (hp : H p = some (.tup [.ty c1, .ty c2])) (ht : TyX K H x (.type T)) (he : PySem.W.kitAny K (.type T) [.type c1, .type c2] = some b) (h : Q (.bl b) H) : rIsiT K [x, .ref p] H Q :=
  ⟨x, p, [.ty c1, .ty c2], .type T, [.type c1, .type c2], b, rfl, hp, .cons (.ty c1) (.cons (.ty c2) .nil), ht, he, h⟩
theorem r_andV (h : ta σ H fun x H1 => ∃ c, x = .bl c ∧ if c = true then tb σ H1 Q else Q (.bl false) H1) : tAndV ta tb σ H Q := h
theorem r_orV (h : ta σ H fun x H1 => ∃ c, x = .bl c ∧ if c = true then Q (.bl true) H1 else tb σ H1 Q) : tOrV ta tb σ H Q := h
theorem r_notV (h : ta σ H fun x H1 => ∃ c, x = .bl c ∧ Q (.bl (!c)) H1) : tNotV ta σ H Q := h
theorem r_all {a : Addr} {bs : List Bool} (h1 : SqL K H a (bs.map V.bl)) (h : Q (.bl (bs.all id)) H) : rAll K [.ref a] H Q := ⟨a, bs, rfl, h1, h⟩
theorem r_any {a : Addr} {bs : List Bool} (h1 : SqL K H a (bs.map V.bl)) (h : Q (.bl (bs.any id)) H) : rAny K [.ref a] H Q := ⟨a, bs, rfl, h1, h⟩
theorem r_iZip {ta : TA} {R : It → Hp → Prop} (h : ta σ H fun vs H1 => ∃ a b xs ys, vs = [.ref a, .ref b] ∧ ((SqL K H1 a xs ∧ SqL K H1 b ys ∧ R (Itz K a b) H1) ∨ (SqT K H1 a xs ∧ SqT K H1 b ys ∧ R (RZ.ItzT K a b) H1))) : RZ.iZipA K ta σ H R := h
theorem r_while (W : Nat → L2.St → Hp → Prop) (m : Nat) (h0 : W m σ H) (hs : ∀ m σ H, W m σ H → c σ H fun b H1 => if b = true then ∃ N : L2.St → Hp → Prop, (∀ σ' H', N σ' H' → ∃ m', m' < m ∧ W m' σ' H') ∧ t ⟨N, rt, nx, N⟩ σ H1 else nx σ H1) : tWhile c t ⟨nx, rt, bk, ct⟩ σ H :=
  ⟨W, ⟨m, h0⟩, hs⟩
theorem r_slL {te : TE} {tl th : TO} {r : V → Option Int → Option Int → Hp → VK → Prop} (h : te σ H fun x H1 => tl σ H1 fun l H2 => th σ H2 fun u H3 => r x l u H3 Q) : tSl r te tl th σ H Q := h
theorem r_noP {R : Option Int → Hp → Prop} (h : R none H) : tNoPart σ H R := h
theorem r_part {te : TE} {R : Option Int → Hp → Prop} (h : te σ H fun x H1 => ∃ i, x = .int i ∧ R (some i) H1) : tPart te σ H R := h
theorem r_exI {i : Int} {R : Int → Prop} (h : R i) : ∃ j, V.int i = .int j ∧ R j := ⟨i, rfl, h⟩
theorem r_slList {a : Addr} {xs : List V} {lo hi : Option Int} (h1 : SqL K H a xs) (h : ∀ p, H p = none → Q (.ref p) (upd H p (.lst (cutV xs lo hi)))) : rSlL K (.ref a) lo hi H Q := ⟨a, xs, rfl, h1, h⟩
theorem r_setL {p : Addr} {xs : List V} {k : Int} {j : Nat} {R : Hp → Prop} (h1 : H p = some (.lst xs)) (h2 : ixN xs.length k = some j) (h : R (upd H p (.lst (xs.set j v)))) : rSetL (.ref p) (.int k) v H R := ⟨p, xs, k, j, rfl, rfl, h1, h2, h⟩
theorem r_int {i : Int} {R : Int → Prop} {B : Prop} (h : R i) : (∃ j, [V.int i] = [.int j] ∧ R j) ∨ B := .inl ⟨i, rfl, h⟩
theorem r_len {p : Addr} {ys : List V} (h1 : SqL K H p ys ∨ SqT K H p ys) (h : Q (.int ys.length) H) : rLn K [.ref p] H Q := ⟨p, ys, rfl, h1, h⟩
theorem r_list {p : Addr} {ys : List V} (h1 : SqL K H p ys ∨ SqT K H p ys) (h : ∀ l, H l = none → Q (.ref l) (upd H l (.lst ys))) : rLs K [.ref p] H Q := ⟨p, ys, rfl, h1, h⟩
end
section
variable {X : Cx}
/-- a statement, then the rest, a word of one's own between them -/
def tMid (t u : TS) : TS := fun D σ H => ∃ M : L2.St → Hp → Prop, t ⟨M, D.rt, D.bk, D.ct⟩ σ H ∧ ∀ σ' H', M σ' H' → u D σ' H'
theorem pss_mid {st : Stmt} {rest : List Stmt} {t u : TS} (h1 : PS X st t) (h2 : PSs X rest u) : PSs X (st :: rest) (tMid t u) := by
  refine ⟨fun pins s σ H D I h => ?_⟩
  obtain ⟨M, hm, hu⟩ := h
  refine wpAny_execs_cons (thn (h1.run pins s σ H ⟨M, D.rt, D.bk, D.ct⟩ I hm) fun f s1 q => ?_)
  cases f with
  | next =>
    obtain ⟨σ', H', I', q⟩ := q
    exact h2.run pins s1 σ' H' D I' (hu σ' H' q)
  | ret v => exact q
  | brk => exact q
  | cont => exact q
theorem r_mid {t u : TS} {nx : L2.St → Hp → Prop} {rt : VK} {bk ct : L2.St → Hp → Prop} {σ : L2.St} {H : Hp} (M : L2.St → Hp → Prop) (h1 : t ⟨M, rt, bk, ct⟩ σ H) (h2 : ∀ σ' H', M σ' H' → u ⟨nx, rt, bk, ct⟩ σ' H') : tMid t u ⟨nx, rt, bk, ct⟩ σ H := ⟨M, h1, h2⟩
/-- a store into a list: the heap behind it by a name -/
theorem r_setB {K : PySem.W.Frag} {H : Hp} {b : Addr} {l : List V} {k : Int} {j : Nat} {v : V} {R : Hp → Prop} (h1 : H b = some (.lst l)) (h2 : ixN l.length k = some j) (l' : List V) (h3 : l.set j v = l')
    (h : ∀ H1, H1 b = some (.lst l') → Ext [b] H H1 → (∀ a xs, SqL K H a xs → xs ≠ l → SqL K H1 a xs) → R H1) : rSetL (.ref b) (.int k) v H R := by
  refine ⟨b, l, k, j, rfl, rfl, h1, h2, h _ ?_ (Ext.refl.at_ List.mem_cons_self) fun a xs q hd => ?_⟩
  · rw [h3]
    exact upd_same
  · rcases q with (q | ⟨u, q⟩) | q
    · exact .inl (.inl (by rw [upd_ne (fun z => hd (by rw [z, h1] at q; cases q; rfl))]; exact q))
    · exact .inl (.inr ⟨u, by rw [upd_ne (fun z => by rw [z, h1] at q; cases q)]; exact q⟩)
    · exact .inr q
end
section
variable {P : Program} {w : World} {K : PySem.W.Frag} {mg : Str → Option Value} {base : Heap}
/-- def f(a, .., *v) -/
theorem fn_star {x pv : Str} {params : Arguments} {body : List Stmt} {scope : Scope} {f : Addr} {fd : FuncData} {N ps : List Str} {k : Nat} {sp sp' : Sp}
    (F : FunD K x x params body scope [] [] f fd) (hm : mg x = some (.ref f)) (S : FnScope N (ps ++ [pv]) scope)
    (hb : ∀ (kV doc pm : Value) (an : Option Addr) (cdv ct : Value) (us rest : List Value), us.length = ps.length → bindArgs (PySem.W.fnOf x x params body scope .none kV doc pm an cdv ct) ⟨us ++ rest, []⟩ = (newTuple rest >>= fun t => pure (ps.zip us ++ [(pv, t)])))
    (hbody : ∀ (cdv : Value) (A : Around) (outer : List Env) (s : Shared) (H : Hp) (vs : List V) (Q : VK) (E : XK), Room k (A.deeper (envOfC x scope s.heap.objs.size f cdv)) → sp vs H Q E →
      ∃ t, PSs (cxOf CX0 P w K mg base N x scope f cdv A outer s H E).nox body t ∧ t ⟨fun _ H' => Q .non H', Q, fun _ _ => False, fun _ _ => False⟩ (start N vs) H)
    (himp : ∀ vs H Q E, sp' vs H Q E → ∃ ws rest, vs = ws ++ rest ∧ ws.length = ps.length ∧ rest.length ≤ sizeLine ∧ ∀ p, H p = none → sp (ws ++ [V.ref p]) (upd H p (.tup rest)) Q E) : Fn P w K mg base (k + 1) x sp' := by
  have kp := F.kp
  obtain ⟨oc, od, dV, kV, doc, pm, an, cdv, ct, osl, rfl, lk, hcd, hD, _⟩ := F.ex
  rcases hD with ⟨_, rfl⟩ | ⟨e, _⟩
  · have R := StX.fn_star (P := P) (w := w) (mg := mg) (base := base) (sp := sp) lk hcd S StX.cxUp_none (hb kV doc pm an cdv ct) (fun A outer s H vs Q E hr h => let ⟨t, h1, h2⟩ := hbody cdv A outer s H vs Q E hr h; ⟨t, h1.nox, h2⟩)
    exact ⟨f, hm, kp, R.imp himp⟩
  · exact absurd rfl e
end
end Yk

set_option maxHeartbeats 1000000
/-! Calls by name: two parameters, told in the other order. -/
namespace Yk
open PySem PySem.Spec PyProof.Rows L2
def sw2 {α : Type} (us ws : List α) : List α := match us, ws with
  | [], [a, b] => [b, a]
  | _, _ => []
theorem sw2_rel {vs : List V} {us : List Value} {zs : List V} {ws : List Value} (h1 : Vals vs us) (h2 : Vals zs ws) : Vals (sw2 vs zs) (sw2 us ws) := by
  cases h1 with
  | cons a b => exact .nil
  | nil =>
    cases h2 with
    | nil => exact .nil
    | cons a h2 =>
      cases h2 with
      | nil => exact .nil
      | cons b h2 =>
        cases h2 with
        | nil => exact .cons b (.cons a .nil)
        | cons c h2 => exact .nil
section
variable (P : Program) (w : World) (K : PySem.W.Frag) (mg : Str → Option Value) (base : Heap)
structure FnS (k : Nat) (x : Str) (ks : List Str) (sp : Sp) : Prop where
  run : ∃ f fd ps, mg x = some (.ref f) ∧ PySem.W.keepIn K (.ref f) = true ∧ FnOk P w K mg base CX0 k f fd ps sp ∧ KBinds K fd ps ks sw2 sw2
end
section
variable {P : Program} {w : World} {K : PySem.W.Frag} {mg : Str → Option Value} {base : Heap} {f : Addr} {fd : FuncData}
theorem ok_def {x : Str} {params : Arguments} {body : List Stmt} {scope : Scope} {N ps : List Str} {k : Nat} {sp : Sp}
    (F : FunD K x x params body scope [] [] f fd) (S : FnScope N ps scope) (len : ∀ vs H Q E, sp vs H Q E → vs.length = ps.length)
    (hbody : ∀ (cdv : Value) (A : Around) (outer : List Env) (s : Shared) (H : Hp) (vs : List V) (Q : VK) (E : XK), Room k (A.deeper (envOfC x scope s.heap.objs.size f cdv)) → sp vs H Q E →
      ∃ t, PSs (cxOf CX0 P w K mg base N x scope f cdv A outer s H E).nox body t ∧ t ⟨fun _ H' => Q .non H', Q, fun _ _ => False, fun _ _ => False⟩ (start N vs) H) : FnOk P w K mg base CX0 (k + 1) f fd ps sp :=
  F.ok S len fun cdv A outer s H vs Q E hr h => by
    obtain ⟨t, h1, h2⟩ := hbody cdv A outer s H vs Q E hr h
    exact ⟨t, h1.nox, h2⟩
theorem fn_none {x : Str} {params : Arguments} {body : List Stmt} {scope : Scope} (F : FunD K x x params body scope [] [] f fd) {k : Nat} (hm : mg x = some (.ref f)) : Fn P w K mg base k x (fun _ _ _ _ => False) :=
  ⟨f, hm, F.kp, fun _ _ _ _ _ _ _ _ _ _ _ h => h.elim⟩
theorem fn_of_ok {x : Str} {params : Arguments} {body : List Stmt} {scope : Scope} {ps : List Str} {k : Nat} {sp : Sp}
    (F : FunD K x x params body scope [] [] f fd) (hm : mg x = some (.ref f)) (G : FnOk P w K mg base CX0 k f fd ps sp)
    (hb : ∀ (kV doc pm : Value) (an : Option Addr) (cdv ct : Value) (us : List Value), us.length = ps.length → bindArgs (PySem.W.fnOf x x params body scope .none kV doc pm an cdv ct) ⟨us, []⟩ = pure (ps.zip us)) : Fn P w K mg base k x sp := by
  have b := F.bindsN hb
  have R := G.raw b .nil
  refine ⟨f, hm, F.kp, R.imp fun vs H Q E h => ?_⟩
  rw [List.append_nil]
  exact h
theorem fs_of_ok {x p1 p2 : Str} {params : Arguments} {body : List Stmt} {scope : Scope} {k : Nat} {sp : Sp}
    (F : FunD K x x params body scope [] [] f fd) (hm : mg x = some (.ref f)) (G : FnOk P w K mg base CX0 k f fd [p1, p2] sp)
    (hb : ∀ (kV doc pm : Value) (an : Option Addr) (cdv ct : Value) (a b : Value), bindArgs (PySem.W.fnOf x x params body scope .none kV doc pm an cdv ct) ⟨[], [(p2, a), (p1, b)]⟩ = pure [(p1, b), (p2, a)]) : FnS P w K mg base k x [p2, p1] sp := by
  refine ⟨f, fd, [p1, p2], hm, F.kp, G, ⟨fun s us ws hK hl => ?_, sw2_rel⟩⟩
  obtain ⟨oc, od, dV, kV, doc, pm, an, cdv, ct, osl, rfl, lk, hcd, hD, _⟩ := F.ex
  rcases hD with ⟨_, rfl⟩ | ⟨e, _⟩
  · match us, ws, hl with
    | [], [a, b], _ => exact .of_eq (hb kV doc pm an cdv ct a b)
    | [], [], h => cases h
    | [], [_], h => cases h
    | [], _ :: _ :: _ :: _, h => cases h
    | _ :: _, _, h => cases h
  · exact absurd rfl e
end
section
variable {X : Cx} {k : Nat} {sp : Sp} {x : Str} {p pos : Pos} {ks : List Str} {kws : List Keyword} {tk : TA}
def tRS (sp : Sp) (tk : TA) : TE := fun σ H Q => tk σ H fun zs H1 => ∃ a b, zs = [a, b] ∧ sp [b, a] H1 Q E0
theorem r_RS {σ : L2.St} {H : Hp} {Q : VK} (h : tk σ H fun zs H1 => ∃ a b, zs = [a, b] ∧ sp [b, a] H1 Q E0) : tRS sp tk σ H Q := h
theorem pe_fnS (F : FnS X.prog X.w X.K X.mg X.base k x ks sp) (hr : Room k X.A) (hkw : PK X kws tk) (hg : Gl X x := by rfl) (hdb : (x == ("__debug__" : Str)) = false := by decide)
    (hx : Passes CX0 X E0 := by exact pass0)
    (hall : (backToKw pos (keywordEach kws X.env)).all (·.1.isSome) = true := by rfl) (hks : (backToKw pos (keywordEach kws X.env)).filterMap (·.1) = ks := by rfl)
    (hpl : ((backTo pos (starEach [] X.env)).any (·.1) || (backToKw pos (keywordEach kws X.env)).any (·.1.isNone)) = false := by rfl) :
    PE X (.Call (.Name x p) [] kws pos) (tRS sp tk) := by
  obtain ⟨f, fd, ps, hm, hk, F, hb⟩ := F.run
  refine ⟨fun pins s σ H Q I h => ?_⟩
  refine wpAny_Call_Name_kw (ld_glob I hg hm ?_ hdb)
  refine PySem.W.callWith_KW0 (h₀ := X.base) I.ok.mod.kin hk hall ?_ hpl
  refine thn (hkw.run pos pins s σ H _ I h) fun ws s2 ⟨zs, H2, I2, rz, a, b, ez, q2⟩ => ⟨I2.kIn, ?_⟩
  rw [hks]
  subst ez
  exact run_fnk (us := []) (vs := []) (g := sw2) (gV := sw2) F hr hb hx I2 .nil rz q2
end

/-! stars, and what is a list or a tuple -/
section
variable {X : Cx} {k : Nat} {sp : Sp} {x : Str} {p sp_ pos : Pos} {e : Expr} {es : List Expr} {te : TE} {t : TA}
def tR1 (K : PySem.W.Frag) (sp : Sp) (te : TE) : TE := fun σ H Q => te σ H fun y H1 => ∃ a xs, y = V.ref a ∧ (SqT K H1 a xs ∨ SqL K H1 a xs) ∧ sp xs H1 Q E0
theorem r_R1 {K : PySem.W.Frag} {σ : L2.St} {H : Hp} {Q : VK} (h : te σ H fun y H1 => ∃ a xs, y = V.ref a ∧ (SqT K H1 a xs ∨ SqL K H1 a xs) ∧ sp xs H1 Q E0) : tR1 K sp te σ H Q := h
theorem r_star {K : PySem.W.Frag} {σ : L2.St} {H : Hp} {R : List V → Hp → Prop} (h : te σ H fun x H1 => ∃ p xs, x = V.ref p ∧ (SqT K H1 p xs ∨ SqL K H1 p xs) ∧ t σ H1 fun ys H2 => R (xs ++ ys) H2) : StX.tStar K te t σ H R := h
theorem pe_fnS1 (F : Fn X.prog X.w X.K X.mg X.base k x sp) (hr : Room k X.A) (he : PE X e te) (hg : Gl X x := by rfl) (hdb : (x == ("__debug__" : Str)) = false := by decide) (hx : Passes CX0 X E0 := by exact pass0)
    (hst : starEach [.Starred e sp_] X.env = [(true, eval e X.env)] := by rfl) : PE X (.Call (.Name x p) [.Starred e sp_] [] pos) (tR1 X.K sp te) := by
  obtain ⟨f, hm, hk, F⟩ := F.run
  exact StX.pe_callS1 F hr hk hg hm hx he hdb hst
theorem pe_fnS2 (F : Fn X.prog X.w X.K X.mg X.base k x sp) (hr : Room k X.A) (ha : PA X (e :: es) t) (hg : Gl X x := by rfl) (hdb : (x == ("__debug__" : Str)) = false := by decide) (hx : Passes CX0 X E0 := by exact pass0)
    (he : starEach (e :: es) X.env = (false, eval e X.env) :: starEach es X.env := by rfl) (hst : (backTo pos (starEach es X.env)).any (·.1) = true := by rfl) : PE X (.Call (.Name x p) (e :: es) [] pos) (tR sp t) := by
  obtain ⟨f, hm, hk, F⟩ := F.run
  exact StX.pe_callS2 F hr hk hg hm hx ha hdb he hst
def iSeq (K : PySem.W.Frag) (tl : TE) : TI := fun σ H R => iList K tl σ H R ∨ iTup K tl σ H R
theorem pi_seq {tg l : Expr} {tl : TE} (hl : PE X l tl) : PI X tg l (iSeq X.K tl) :=
  ⟨fun pins s σ H R I h => h.elim (fun h => (pi_list hl).run pins s σ H R I h) (fun h => (pi_tup hl).run pins s σ H R I h)⟩
end
section
variable {K : PySem.W.Frag} {nx : L2.St → Hp → Prop} {rt : VK} {bk ct : L2.St → Hp → Prop} {σ : L2.St} {H : Hp} {Q : VK} {g : TG} {tt : TT} {te : TE} {t : TS} {vs : List Nat}
/-- carried on: what is a list or a tuple at a -/
def Kp (K : PySem.W.Frag) (a : Addr) (xs : List V) (H H2 : Hp) : Prop := (SqL K H a xs → SqL K H2 a xs) ∧ (SqT K H a xs → SqT K H2 a xs)
theorem kp0 {a : Addr} {xs : List V} {H2 : Hp} (e : Ext [] H H2) : Kp K a xs H H2 := ⟨lst0 e, tup0 e⟩
theorem Kp.trans {a : Addr} {xs : List V} {H1 H2 : Hp} (h : Kp K a xs H H1) (g : Kp K a xs H1 H2) : Kp K a xs H H2 := ⟨fun z => g.1 (h.1 z), fun z => g.2 (h.2 z)⟩
abbrev SqQ (K : PySem.W.Frag) (H : Hp) (a : Addr) (xs : List V) : Prop := SqL K H a xs ∨ SqT K H a xs
theorem Kp.q {a : Addr} {xs : List V} {H2 : Hp} (h : Kp K a xs H H2) (z : SqQ K H a xs) : SqQ K H2 a xs := z.elim (fun z => .inl (h.1 z)) fun z => .inr (h.2 z)
theorem sqq0 {a : Addr} {xs : List V} {H2 : Hp} (e : Ext [] H H2) (h : SqQ K H a xs) : SqQ K H2 a xs := (kp0 e).q h
theorem r_lcQ {i : Nat} {a : Addr} {xs : List V} {Qd : Addr → Hp → Prop} {H0 : Hp} (h1 : σ[i]? = some (some (.ref a))) (h2 : SqQ K H0 a xs) (hk : Kp K a xs H0 H) (h : ∀ D, H D = none → ∃ Pv : Nat → Hp → Prop, Pv 0 (upd H D (.lst [])) ∧ (∀ j H2, Pv j H2 → Kp K a xs H0 H2) ∧
    (∀ j x H, xs[j]? = some x → Pv j H → g x (wipe σ vs) H fun σ2 H2 => wipe σ2 vs = wipe σ vs ∧ tt σ2 H2 fun b H3 =>
      if b = true then te σ2 H3 fun y H4 => ∃ acc, H4 D = some (.lst acc) ∧ acc.length < sizeLine ∧ Pv (j + 1) (upd H4 D (.lst (acc ++ [y]))) else Pv (j + 1) H3) ∧ ∀ H, Pv xs.length H → Qd D H) :
    iSeq K (tVar i) σ H fun J H1 => ∀ D, H1 D = none → ∃ W : Nat → Nat → Hp → Prop, (∃ m, W 0 m (upd H1 D (.lst []))) ∧ ∀ i m H, W i m H →
      (J.stop i H ∧ Qd D H) ∨ (J.go i H ∧ ∃ Nx : Hp → Prop, (∀ H', Nx H' → ∃ m', m' < m ∧ W (i + 1) m' H') ∧ ∀ x H', J.yld i H x H' → g x (wipe σ vs) H' fun σ2 H2 => wipe σ2 vs = wipe σ vs ∧ tt σ2 H2 fun b H3 =>
        if b = true then te σ2 H3 fun y H4 => ∃ acc, H4 D = some (.lst acc) ∧ acc.length < sizeLine ∧ Nx (upd H4 D (.lst (acc ++ [y]))) else Nx H3) := by
  rcases h2 with h2 | h2
  · refine Or.inl ⟨_, h1, a, rfl, ⟨xs, hk.1 h2⟩, fun D hD => ?_⟩
    obtain ⟨Pv, p0, pk, ps, pd⟩ := h D hD
    exact lc_list (Qd := Qd D) Pv p0 (fun j H2 _ p => (pk j H2 p).1 h2) ps pd
  · refine Or.inr ⟨_, h1, a, rfl, ⟨xs, hk.2 h2⟩, fun D hD => ?_⟩
    obtain ⟨Pv, p0, pk, ps, pd⟩ := h D hD
    exact lc_tup (Qd := Qd D) Pv p0 (fun j H2 _ p => (pk j H2 p).2 h2) ps pd
theorem r_forQ {i : Nat} {a : Addr} {xs : List V} {H0 : Hp} (h1 : σ[i]? = some (some (.ref a))) (h2 : SqQ K H0 a xs) (hk : Kp K a xs H0 H) (Pv : Nat → L2.St → Hp → Prop) (h0 : Pv 0 σ H) (hl : ∀ i σ H2, i ≤ xs.length → Pv i σ H2 → Kp K a xs H0 H2)
    (hs : ∀ i x σ H, xs[i]? = some x → Pv i σ H → g x σ H fun σ2 H2 => t ⟨Pv (i + 1), rt, nx, Pv (i + 1)⟩ σ2 H2) (hd : ∀ σ H, Pv xs.length σ H → nx σ H) : tFor (iSeq K (tVar i)) g t ⟨nx, rt, bk, ct⟩ σ H := by
  rcases h2 with h2 | h2
  · exact Or.inl ⟨_, h1, a, rfl, ⟨xs, hk.1 h2⟩, for_list (D := ⟨nx, rt, nx, nx⟩) Pv h0 (fun i σ H2 z p => (hl i σ H2 z p).1 h2) hs hd⟩
  · exact Or.inr ⟨_, h1, a, rfl, ⟨xs, hk.2 h2⟩, for_tup (D := ⟨nx, rt, nx, nx⟩) Pv h0 (fun i σ H2 z p => (hl i σ H2 z p).2 h2) hs hd⟩
end
/-! rows that go together -/
section
variable {α β : Type}
def Rel (R : V → α → Prop) (xs : List V) (rs : List α) : Prop := xs.length = rs.length ∧ ∀ (i : Nat) (v : V) (r : α), xs[i]? = some v → rs[i]? = some r → R v r
variable {R R' : V → α → Prop} {xs ys : List V} {rs ts : List α}
theorem Rel.nil : Rel R [] [] := ⟨rfl, fun i v q h => by simp at h⟩
theorem Rel.cons {v : V} {r : α} (h : R v r) (g : Rel R xs rs) : Rel R (v :: xs) (r :: rs) := by
  refine ⟨by simp [g.1], fun i w u a b => ?_⟩
  cases i with
  | zero =>
    simp at a b
    subst a b
    exact h
  | succ i =>
    simp at a b
    exact g.2 i w u a b
theorem Rel.imp (h : Rel R xs rs) (f : ∀ v r, R v r → R' v r) : Rel R' xs rs := ⟨h.1, fun i v r a b => f v r (h.2 i v r a b)⟩
theorem Rel.impM (h : Rel R xs rs) (f : ∀ v r, r ∈ rs → R v r → R' v r) : Rel R' xs rs := ⟨h.1, fun i v r a b => f v r (List.mem_of_getElem? b) (h.2 i v r a b)⟩
theorem Rel.at_ (h : Rel R xs rs) {i : Nat} {v : V} (hv : xs[i]? = some v) : ∃ r, rs[i]? = some r ∧ R v r := by
  have hi : i < rs.length := by rw [← h.1]; exact (List.getElem?_eq_some_iff.mp hv).1
  exact ⟨rs[i], List.getElem?_eq_getElem hi, h.2 i v _ hv (List.getElem?_eq_getElem hi)⟩
theorem Rel.app (h : Rel R xs rs) (g : Rel R ys ts) : Rel R (xs ++ ys) (rs ++ ts) := by
  refine ⟨by rw [List.length_append, List.length_append, h.1, g.1], fun j v q a b => ?_⟩
  by_cases hj : j < xs.length
  · rw [List.getElem?_append_left hj] at a
    rw [List.getElem?_append_left (by rw [← h.1]; exact hj)] at b
    exact h.2 j v q a b
  · rw [List.getElem?_append_right (by omega)] at a
    rw [List.getElem?_append_right (by rw [← h.1]; omega), ← h.1] at b
    exact g.2 _ v q a b
theorem Rel.hd {v : V} {r : α} (h : Rel R (v :: xs) (r :: rs)) : R v r := h.2 0 v r rfl rfl
theorem Rel.tl {v : V} {r : α} (h : Rel R (v :: xs) (r :: rs)) : Rel R xs rs := ⟨by simpa using h.1, fun i w u a b => h.2 (i + 1) w u (by simpa using a) (by simpa using b)⟩
theorem Rel.cases {v : V} (h : Rel R (v :: xs) rs) : ∃ r t, rs = r :: t ∧ R v r ∧ Rel R xs t := by
  cases rs with
  | nil => exact absurd h.1 (by simp)
  | cons r t => exact ⟨r, t, rfl, h.hd, h.tl⟩
theorem Rel.take (h : Rel R xs rs) (n : Nat) : Rel R (xs.take n) (rs.take n) := by
  refine ⟨by rw [List.length_take, List.length_take, h.1], fun j v q a b => ?_⟩
  rw [List.getElem?_take] at a b
  split at a
  · rename_i hj
    rw [if_pos hj] at b
    exact h.2 j v q a b
  · cases a
theorem Rel.drop (h : Rel R xs rs) (n : Nat) : Rel R (xs.drop n) (rs.drop n) := by
  refine ⟨by rw [List.length_drop, List.length_drop, h.1], fun j v q a b => ?_⟩
  rw [List.getElem?_drop] at a b
  exact h.2 _ v q a b
theorem Rel.perm (p : ys.Perm xs) : ∀ {rs : List α}, Rel R xs rs → ∃ ts, Rel R ys ts ∧ ts.Perm rs := by
  induction p with
  | nil => exact fun {rs} h => ⟨rs, h, List.Perm.refl _⟩
  | cons x _ ih =>
    intro rs h
    obtain ⟨r, t, rfl, a, b⟩ := h.cases
    obtain ⟨ts, c, d⟩ := ih b
    exact ⟨r :: ts, .cons a c, d.cons r⟩
  | swap x y l =>
    intro rs h
    obtain ⟨r1, t, rfl, a, b⟩ := h.cases
    obtain ⟨r2, t, rfl, c, d⟩ := b.cases
    exact ⟨r2 :: r1 :: t, .cons c (.cons a d), List.Perm.swap r1 r2 t⟩
  | trans _ _ ih1 ih2 =>
    intro rs h
    obtain ⟨ts, a, b⟩ := ih2 h
    obtain ⟨us, c, d⟩ := ih1 a
    exact ⟨us, c, d.trans b⟩
theorem Rel.snoc {v : V} {r : α} (h : Rel R xs rs) (g : R v r) : Rel R (xs ++ [v]) (rs ++ [r]) := h.app (.cons g .nil)
end
/-! steps -/
section
variable {K : PySem.W.Frag} {nx : L2.St → Hp → Prop} {rt : VK} {bk ct : L2.St → Hp → Prop} {σ : L2.St} {H : Hp} {Q : VK} {te : TE} {x y : V}
theorem r_app {l : Addr} {xs : List V} (h1 : H l = some (.lst xs)) (h2 : xs.length ≤ 4000) (h : Q .non (upd H l (.lst (xs ++ [y])))) : rAppend (.ref l) [y] H Q := ⟨l, xs, y, rfl, rfl, h1, Nat.lt_of_le_of_lt h2 (by decide), h⟩
theorem ty_lst {l : Addr} {xs : List V} (h : H l = some (.lst xs)) : tyV K "list" (.ref l) H := .inl ⟨rfl, xs, .inl (.inl h)⟩
theorem r_aug {i : Nat} {ti : TIp} (h1 : σ[i]? = some (some x)) (h : te σ H fun y H1 => ti x y H1 fun z H2 => nx (σ.set i (some z)) H2) : tAug i te ti ⟨nx, rt, bk, ct⟩ σ H := ⟨x, h1, h⟩
theorem r_ipI {f : Int → Int → Int} {i j : Int} {R : V → Hp → Prop} (h : R (.int (f i j)) H) : ipI f (.int i) (.int j) H R := ⟨i, j, rfl, rfl, h⟩
theorem cut_drop {xs : List V} {n : Nat} (h : n ≤ xs.length) : cutV xs (some (n : Int)) none = xs.drop n := by
  have e : HT.sIx xs.length 0 (some (n : Int)) = n := by rw [HT.sIx_nat]; exact Nat.min_eq_left h
  have e2 : HT.sIx xs.length xs.length none = xs.length := rfl
  unfold cutV
  rw [e, e2]
  exact List.take_of_length_le (by simp)
theorem cut_take {xs : List V} {n : Nat} (h : n ≤ xs.length) : cutV xs none (some (n : Int)) = xs.take n := by
  have e : HT.sIx xs.length xs.length (some (n : Int)) = n := by rw [HT.sIx_nat]; exact Nat.min_eq_left h
  have e2 : HT.sIx xs.length 0 none = 0 := rfl
  unfold cutV
  rw [e, e2]
  simp
end
section
theorem ixN_at {n j : Nat} {i : Int} (h : i = (j : Int)) (hj : j < n) : ixN n i = some j := by
  unfold ixN
  rw [if_pos (by omega), if_pos (by omega), h, Int.toNat_natCast]
theorem at0 {v : V} {xs : List V} : atI (v :: xs) 0 = some v := atI_nat (j := 0) rfl
theorem at1 {v w : V} {xs : List V} : atI (v :: w :: xs) 1 = some w := atI_nat (j := 1) rfl
theorem at_n {v : V} {xs : List V} {n : Nat} {i : Int} (hi : i = (n : Int)) (h : xs[n]? = some v) : atI xs i = some v := by rw [hi]; exact atI_nat h
end
theorem r_ndec {p : Prop} [Decidable p] {A B : Prop} (h1 : ¬ p → A) (h2 : p → B) : if (!decide p) = true then A else B := by
  by_cases hp : p
  · rw [decide_eq_true hp, if_neg (by decide)]; exact h2 hp
  · rw [decide_eq_false hp, if_pos (by decide)]; exact h1 hp
def rTs (K : PySem.W.Frag) : List V → Hp → VK → Prop := fun xs H Q => ∃ p ys, xs = [.ref p] ∧ ((SqL K H p ys ∧ ∀ l, H l = none → Q (.ref l) (upd H l (.tup ys))) ∨ (SqT K H p ys ∧ Q (.ref p) H))
theorem cr_tuple {X : Cx} : CallR X (.type "tuple") (rTs X.K) := call_tuple_of
theorem r_tupleL {K : PySem.W.Frag} {H : Hp} {Q : VK} {p : Addr} {ys : List V} (h : SqL K H p ys) (k : ∀ l, H l = none → Q (.ref l) (upd H l (.tup ys))) : rTs K [.ref p] H Q := ⟨p, ys, rfl, .inl ⟨h, k⟩⟩
end Yk

set_option maxHeartbeats 1000000
/-! Calls by place and by name, in any order; data that stands clear of some addresses. -/
namespace Yk
open PySem PySem.Spec PyProof.Rows L2
/-- the parameters' values: the i-th is the idx[i]-th of all that are passed -/
def arr {α : Type} (m n : Nat) (idx : List Nat) (us ws : List α) : List α := if us.length = m ∧ ws.length = n then idx.filterMap fun i => (us ++ ws)[i]? else []
theorem Vals.app {vs zs : List V} {us ws : List Value} (h : Vals vs us) (g : Vals zs ws) : Vals (vs ++ zs) (us ++ ws) := by
  induction h with
  | nil => exact g
  | cons a _ ih => exact .cons a ih
theorem Vals.get {vs : List V} {us : List Value} (h : Vals vs us) : ∀ i : Nat, (vs[i]? = none ∧ us[i]? = none) ∨ ∃ v u, vs[i]? = some v ∧ us[i]? = some u ∧ RelV v u := by
  induction h with
  | nil => intro i; exact .inl ⟨rfl, rfl⟩
  | cons a _ ih =>
    intro i
    cases i with
    | zero => exact .inr ⟨_, _, rfl, rfl, a⟩
    | succ i => exact ih i
theorem Vals.pick {vs : List V} {us : List Value} (h : Vals vs us) : ∀ idx : List Nat, Vals (idx.filterMap fun i => vs[i]?) (idx.filterMap fun i => us[i]?)
  | [] => .nil
  | i :: idx => by
    rcases Vals.get h i with ⟨a, b⟩ | ⟨v, u, a, b, r⟩
    · rw [List.filterMap_cons_none a, List.filterMap_cons_none b]
      exact Vals.pick h idx
    · rw [List.filterMap_cons_some a, List.filterMap_cons_some b]
      exact .cons r (Vals.pick h idx)
theorem arr_rel {m n : Nat} {idx : List Nat} {vs : List V} {us : List Value} {zs : List V} {ws : List Value} (h1 : Vals vs us) (h2 : Vals zs ws) : Vals (arr m n idx vs zs) (arr m n idx us ws) := by
  unfold arr
  rw [h1.length, h2.length]
  split
  · exact Vals.pick (Vals.app h1 h2) idx
  · exact .nil
section
variable (P : Program) (w : World) (K : PySem.W.Frag) (mg : Str → Option Value) (base : Heap)
structure FnX (k : Nat) (x : Str) (m : Nat) (ks : List Str) (idx : List Nat) (sp : Sp) : Prop where
  run : ∃ f fd ps, mg x = some (.ref f) ∧ PySem.W.keepIn K (.ref f) = true ∧ FnOk P w K mg base CX0 k f fd ps sp ∧ KBinds K fd ps ks (arr m ks.length idx) (arr m ks.length idx)
end
section
variable {P : Program} {w : World} {K : PySem.W.Frag} {mg : Str → Option Value} {base : Heap} {f : Addr} {fd : FuncData}
theorem fx_of_ok {x : Str} {params : Arguments} {body : List Stmt} {scope : Scope} {ps : List Str} {k : Nat} {sp : Sp} (m : Nat) (ks : List Str) (idx : List Nat)
    (F : FunD K x x params body scope [] [] f fd) (hm : mg x = some (.ref f)) (G : FnOk P w K mg base CX0 k f fd ps sp) (h0 : 0 < ps.length)
    (hb : ∀ (kV doc pm : Value) (an : Option Addr) (cdv ct : Value) (us ws : List Value), us.length = m → ws.length = ks.length → bindArgs (PySem.W.fnOf x x params body scope .none kV doc pm an cdv ct) ⟨us, ks.zip ws⟩ = pure (ps.zip (arr m ks.length idx us ws))) : FnX P w K mg base k x m ks idx sp := by
  refine ⟨f, fd, ps, hm, F.kp, G, ⟨fun s us ws hK hl => ?_, arr_rel⟩⟩
  obtain ⟨oc, od, dV, kV, doc, pm, an, cdv, ct, osl, rfl, lk, hcd, hD, _⟩ := F.ex
  rcases hD with ⟨_, rfl⟩ | ⟨e, _⟩
  · by_cases hc : us.length = m ∧ ws.length = ks.length
    · exact .of_eq (hb kV doc pm an cdv ct us ws hc.1 hc.2)
    · have e : arr m ks.length idx us ws = [] := if_neg hc
      rw [e] at hl
      exact absurd hl (by show (0 : Nat) ≠ ps.length; omega)
  · exact absurd rfl e
end
section
variable {X : Cx} {k m : Nat} {sp : Sp} {x : Str} {p pos : Pos} {ks : List Str} {idx : List Nat} {kws : List Keyword} {e : Expr} {es : List Expr} {t tk : TA}
def tRX (m n : Nat) (idx : List Nat) (sp : Sp) (t tk : TA) : TE := fun σ H Q => t σ H fun vs H1 => tk σ H1 fun zs H2 => ∃ us, us = arr m n idx vs zs ∧ sp us H2 Q E0
theorem r_RX {n : Nat} {σ : L2.St} {H : Hp} {Q : VK} (h : t σ H fun vs H1 => tk σ H1 fun zs H2 => ∃ us, us = arr m n idx vs zs ∧ sp us H2 Q E0) : tRX m n idx sp t tk σ H Q := h
theorem pe_fnX (F : FnX X.prog X.w X.K X.mg X.base k x m ks idx sp) (hr : Room k X.A) (ha : PA X (e :: es) t) (hkw : PK X kws tk) (hg : Gl X x := by rfl) (hdb : (x == ("__debug__" : Str)) = false := by decide)
    (hx : Passes CX0 X E0 := by exact pass0)
    (hall : (backToKw pos (keywordEach kws X.env)).all (·.1.isSome) = true := by rfl) (hks : (backToKw pos (keywordEach kws X.env)).filterMap (·.1) = ks := by rfl)
    (he : starEach (e :: es) X.env = (false, eval e X.env) :: starEach es X.env := by rfl)
    (hpl : ((backTo pos (starEach (e :: es) X.env)).any (·.1) || (backToKw pos (keywordEach kws X.env)).any (·.1.isNone)) = false := by rfl) :
    PE X (.Call (.Name x p) (e :: es) kws pos) (tRX m ks.length idx sp t tk) := by
  obtain ⟨f, fd, ps, hm, hk, F, hb⟩ := F.run
  refine ⟨fun pins s σ H Q I h => ?_⟩
  refine wpAny_Call_Name_kw (ld_glob I hg hm ?_ hdb)
  refine PySem.W.callWith_KW (h₀ := X.base) I.ok.mod.kin hk hall (thn (ha.run pos pins s σ H _ I h) fun us s1 ⟨vs, H1, I1, r, q⟩ => ?_) hpl he
  refine thn (hkw.run pos pins s1 σ H1 _ I1 q) fun ws s2 ⟨zs, H2, I2, rz, us', e, q2⟩ => ⟨I2.kIn, ?_⟩
  rw [hks]
  subst e
  exact run_fnk F hr hb hx I2 r rz q2
theorem pe_fnX0 (F : FnX X.prog X.w X.K X.mg X.base k x m ks idx sp) (hr : Room k X.A) (hkw : PK X kws tk) (hg : Gl X x := by rfl) (hdb : (x == ("__debug__" : Str)) = false := by decide)
    (hx : Passes CX0 X E0 := by exact pass0)
    (hall : (backToKw pos (keywordEach kws X.env)).all (·.1.isSome) = true := by rfl) (hks : (backToKw pos (keywordEach kws X.env)).filterMap (·.1) = ks := by rfl)
    (hpl : ((backTo pos (starEach [] X.env)).any (·.1) || (backToKw pos (keywordEach kws X.env)).any (·.1.isNone)) = false := by rfl) :
    PE X (.Call (.Name x p) [] kws pos) (tRX m ks.length idx sp tNil tk) := by
  obtain ⟨f, fd, ps, hm, hk, F, hb⟩ := F.run
  refine ⟨fun pins s σ H Q I h => ?_⟩
  refine wpAny_Call_Name_kw (ld_glob I hg hm ?_ hdb)
  refine PySem.W.callWith_KW0 (h₀ := X.base) I.ok.mod.kin hk hall ?_ hpl
  refine thn (hkw.run pos pins s σ H _ I h) fun ws s2 ⟨zs, H2, I2, rz, us, e, q2⟩ => ⟨I2.kIn, ?_⟩
  rw [hks]
  subst e
  exact run_fnk (us := []) (vs := []) F hr hb hx I2 .nil rz q2
end
/-! data clear of S -/
mutual
inductive Dq (K : PySem.W.Frag) (S : List Addr) (H : Hp) : V → PyData → Prop
  | non : Dq K S H .non .none
  | bl (b : Bool) : Dq K S H (.bl b) (.bool b)
  | int (i : Int) : Dq K S H (.int i) (.int i)
  | str (x : Str) : Dq K S H (.str x) (.str x)
  | lst {a : Addr} {xs : List V} {ds : List PyData} : a ∉ S → SqL K H a xs → DqAll K S H xs ds → Dq K S H (.ref a) (.list ds)
  | tup {a : Addr} {xs : List V} {ds : List PyData} : SqT K H a xs → DqAll K S H xs ds → Dq K S H (.ref a) (.tuple ds)
inductive DqAll (K : PySem.W.Frag) (S : List Addr) (H : Hp) : List V → List PyData → Prop
  | nil : DqAll K S H [] []
  | cons {v : V} {vs : List V} {d : PyData} {ds : List PyData} : Dq K S H v d → DqAll K S H vs ds → DqAll K S H (v :: vs) (d :: ds)
end
section
variable {K : PySem.W.Frag} {S T : List Addr} {H H1 : Hp}
mutual
theorem Dq.x (e : Ext T H H1) (hT : ∀ x ∈ T, x ∈ S) (hs : ∀ b ∈ T, ∃ l, H b = some (.lst l)) : ∀ {v : V} {d : PyData}, Dq K S H v d → Dq K S H1 v d
  | _, _, .non => .non
  | _, _, .bl b => .bl b
  | _, _, .int i => .int i
  | _, _, .str z => .str z
  | _, _, .lst na h g => .lst na (lstX e h fun q => na (hT _ q)) (DqAll.x e hT hs g)
  | _, _, .tup h g => .tup (tupX e h hs) (DqAll.x e hT hs g)
theorem DqAll.x (e : Ext T H H1) (hT : ∀ x ∈ T, x ∈ S) (hs : ∀ b ∈ T, ∃ l, H b = some (.lst l)) : ∀ {vs : List V} {ds : List PyData}, DqAll K S H vs ds → DqAll K S H1 vs ds
  | _, _, .nil => .nil
  | _, _, .cons h g => .cons (Dq.x e hT hs h) (DqAll.x e hT hs g)
end
mutual
theorem Dq.dp : ∀ {v : V} {d : PyData}, Dq K S H v d → Dp K H v d
  | _, _, .non => .non
  | _, _, .bl b => .bl b
  | _, _, .int i => .int i
  | _, _, .str z => .str z
  | _, _, .lst _ h g => .lst h (DqAll.dp g)
  | _, _, .tup h g => .tup h (DqAll.dp g)
theorem DqAll.dp : ∀ {vs : List V} {ds : List PyData}, DqAll K S H vs ds → DpAll K H vs ds
  | _, _, .nil => .nil
  | _, _, .cons h g => .cons (Dq.dp h) (DqAll.dp g)
end
theorem Dq.x0 (e : Ext [] H H1) {v : V} {d : PyData} (h : Dq K S H v d) : Dq K S H1 v d := h.x e (fun _ z => nomatch z) (fun _ z => nomatch z)
theorem DqAll.x0 (e : Ext [] H H1) {v : List V} {d : List PyData} (h : DqAll K S H v d) : DqAll K S H1 v d := h.x e (fun _ z => nomatch z) (fun _ z => nomatch z)
theorem DqAll.app : ∀ {vs ws : List V} {ds es : List PyData}, DqAll K S H vs ds → DqAll K S H ws es → DqAll K S H (vs ++ ws) (ds ++ es)
  | _, _, _, _, .nil, g => g
  | _, _, _, _, .cons h r, g => .cons h (DqAll.app r g)
theorem DqAll.get : ∀ {vs : List V} {ds : List PyData} {i : Nat} {v : V}, DqAll K S H vs ds → vs[i]? = some v → ∃ d, ds[i]? = some d ∧ Dq K S H v d
  | _, _, 0, _, .cons h _, e => by cases e; exact ⟨_, rfl, h⟩
  | _, _, i + 1, _, .cons _ r, e => DqAll.get (i := i) r e
  | _, _, 0, _, .nil, e => by cases e
  | _, _, _ + 1, _, .nil, e => by cases e
end
end Yk

/-! Rational numbers: what the program's reckoning in lowest terms is worth. -/
namespace Yk
/-- the sum in lowest terms, as the program reckons it -/
theorem add_low (a b : Rat) : (a + b).num = (a.num * ((b.den / Nat.gcd a.den b.den : Nat) : Int) + b.num * ((a.den / Nat.gcd a.den b.den : Nat) : Int)) / ((Nat.gcd (a.num * ((b.den / Nat.gcd a.den b.den : Nat) : Int) + b.num * ((a.den / Nat.gcd a.den b.den : Nat) : Int)).natAbs (Nat.gcd a.den b.den) : Nat) : Int)
    ∧ (a + b).den = a.den / Nat.gcd a.den b.den * (b.den / Nat.gcd (a.num * ((b.den / Nat.gcd a.den b.den : Nat) : Int) + b.num * ((a.den / Nat.gcd a.den b.den : Nat) : Int)).natAbs (Nat.gcd a.den b.den)) := by
  have e : a + b = Rat.add a b := rfl
  rw [e]
  unfold Rat.add
  dsimp only
  by_cases hg : Nat.gcd a.den b.den = 1
  · rw [dif_pos hg]
    simp [hg]
  · rw [dif_neg hg]
    have hmn : ∀ (num : Int) (den g : Nat) (h1 : (g : Int) ∣ num) (h2 : g ∣ den) (h3) (h4), (Rat.maybeNormalize num den g h1 h2 h3 h4).num = num / (g : Int) ∧ (Rat.maybeNormalize num den g h1 h2 h3 h4).den = den / g := by
      intro num den g h1 h2 h3 h4
      unfold Rat.maybeNormalize
      split
      · rename_i q
        subst q
        simp
      · exact ⟨by simp [Int.divExact], by simp [Nat.divExact]⟩
    obtain ⟨e1, e2⟩ := hmn _ _ _ _ _ _ _
    refine ⟨e1, ?_⟩
    rw [e2]
    have hd : Nat.gcd (a.num * ((b.den / Nat.gcd a.den b.den : Nat) : Int) + b.num * ((a.den / Nat.gcd a.den b.den : Nat) : Int)).natAbs (Nat.gcd a.den b.den) ∣ b.den := Nat.dvd_trans (Nat.gcd_dvd_right _ _) (Nat.gcd_dvd_right _ _)
    exact Nat.mul_div_assoc _ hd
theorem mul_low (a b : Rat) : (a * b).num = a.num / ((Nat.gcd a.num.natAbs b.den : Nat) : Int) * (b.num / ((Nat.gcd b.num.natAbs a.den : Nat) : Int)) ∧ (a * b).den = a.den / Nat.gcd b.num.natAbs a.den * (b.den / Nat.gcd a.num.natAbs b.den) := by
  have e : a * b = Rat.mul a b := rfl
  rw [e]
  unfold Rat.mul
  simp [Int.divExact, Nat.divExact]
/-- size: both numbers below 2 ^ n -/
def Sz (n : Nat) (q : Rat) : Prop := q.num.natAbs < 2 ^ n ∧ q.den < 2 ^ n
theorem Sz.mono {m n : Nat} {q : Rat} (h : Sz m q) (e : m ≤ n) : Sz n q := ⟨Nat.lt_of_lt_of_le h.1 (Nat.pow_le_pow_right (by decide) e), Nat.lt_of_lt_of_le h.2 (Nat.pow_le_pow_right (by decide) e)⟩
theorem sz_mk {n : Nat} {q : Rat} {a : Int} {b : Nat} (hb : 0 < b) (e : q = mkRat a b) (h1 : a.natAbs < 2 ^ n) (h2 : b < 2 ^ n) : Sz n q := by
  subst e
  constructor
  · rw [Rat.num_mkRat, if_neg (by omega)]
    have hd : ((Nat.gcd b a.natAbs : Nat) : Int) ∣ a := Int.natAbs_dvd_natAbs.mp (by simpa using Nat.gcd_dvd_right b a.natAbs)
    rw [Int.natAbs_ediv_of_dvd hd]
    refine Nat.lt_of_le_of_lt (Nat.div_le_self _ _) h1
  · rw [Rat.den_mkRat, if_neg (by omega)]
    exact Nat.lt_of_le_of_lt (Nat.div_le_self _ _) h2
theorem sz_add {m n : Nat} {a b : Rat} (ha : Sz m a) (hb : Sz n b) : Sz (m + n + 1) (a + b) := by
  have h1 : (a.num * (b.den : Int)).natAbs < 2 ^ (m + n) := by
    rw [Int.natAbs_mul, Nat.pow_add]
    exact Nat.mul_lt_mul'' ha.1 (by simpa using hb.2)
  have h2 : (b.num * (a.den : Int)).natAbs < 2 ^ (m + n) := by
    rw [Int.natAbs_mul, Nat.pow_add, Nat.mul_comm]
    exact Nat.mul_lt_mul'' (by simpa using ha.2) hb.1
  have h3 : 2 ^ (m + n + 1) = 2 ^ (m + n) + 2 ^ (m + n) := by rw [Nat.pow_succ]; omega
  refine sz_mk (a := a.num * b.den + b.num * a.den) (b := a.den * b.den) (Nat.mul_pos a.den_pos b.den_pos) ?_ ?_ ?_
  · rw [Rat.add_def, Rat.normalize_eq_mkRat]
  · have := Int.natAbs_add_le (a.num * (b.den : Int)) (b.num * (a.den : Int))
    omega
  · have h4 : a.den * b.den < 2 ^ m * 2 ^ n := Nat.mul_lt_mul'' ha.2 hb.2
    rw [← Nat.pow_add] at h4
    omega
theorem sz_mul {m n : Nat} {a b : Rat} (ha : Sz m a) (hb : Sz n b) : Sz (m + n) (a * b) := by
  refine sz_mk (a := a.num * b.num) (b := a.den * b.den) (Nat.mul_pos a.den_pos b.den_pos) ?_ ?_ ?_
  · rw [Rat.mul_def, Rat.normalize_eq_mkRat]
  · rw [Int.natAbs_mul, Nat.pow_add]
    exact Nat.mul_lt_mul'' ha.1 hb.1
  · rw [Nat.pow_add]
    exact Nat.mul_lt_mul'' ha.2 hb.2
theorem sz_neg {n : Nat} {a : Rat} (h : Sz n a) : Sz n (-a) := by
  refine ⟨?_, ?_⟩
  · rw [Rat.neg_num, Int.natAbs_neg]; exact h.1
  · exact h.2
theorem sz_inv {n : Nat} {a : Rat} (h : Sz n a) (h0 : 0 < a) : Sz n a⁻¹ := by
  have h1 : 0 < a.num := by
    have := (Rat.lt_iff 0 a).mp h0
    simpa using this
  refine ⟨?_, ?_⟩
  · rw [Rat.num_inv, Int.sign_eq_one_of_pos h1, Int.one_mul]
    simpa using h.2
  · rw [Rat.den_inv, if_neg (by omega)]
    exact h.1
theorem num_pos' {q : Rat} (h : 0 < q) : 0 < q.num := by
  have := (Rat.lt_iff 0 q).mp h
  simpa using this
theorem num_nn {q : Rat} (h : 0 ≤ q) : 0 ≤ q.num := Rat.num_nonneg.mpr h
theorem inv_parts {q : Rat} (h : 0 < q) : q⁻¹.num = (q.den : Int) ∧ (q⁻¹.den : Int) = q.num := by
  have h1 := num_pos' h
  refine ⟨?_, ?_⟩
  · rw [Rat.num_inv, Int.sign_eq_one_of_pos h1, Int.one_mul]
  · rw [Rat.den_inv, if_neg (by omega)]
    omega
/-- two numbers in lowest terms -/
theorem mk_parts (a b : Nat) (hb : 0 < b) : (mkRat (a : Int) b).num = ((a / Nat.gcd a b : Nat) : Int) ∧ (mkRat (a : Int) b).den = b / Nat.gcd a b := by
  rw [Rat.num_mkRat, Rat.den_mkRat, if_neg (by omega), if_neg (by omega)]
  simp [Nat.gcd_comm]
theorem mk_nn (a b : Nat) : 0 ≤ mkRat (a : Int) b := by
  rcases Nat.eq_zero_or_pos b with h | h
  · subst h; simp
  · have e := (mk_parts a b h).1
    have : 0 ≤ (mkRat (a : Int) b).num := by rw [e]; exact Int.natCast_nonneg _
    exact Rat.num_nonneg.mp this
end Yk
namespace Yk
theorem add_int (p q : Rat) : (p + q).num = (p.num * ((q.den : Int) / ((Nat.gcd p.den q.den : Nat) : Int)) + q.num * ((p.den : Int) / ((Nat.gcd p.den q.den : Nat) : Int))) / ((Nat.gcd (p.num * ((q.den : Int) / ((Nat.gcd p.den q.den : Nat) : Int)) + q.num * ((p.den : Int) / ((Nat.gcd p.den q.den : Nat) : Int))).natAbs (Nat.gcd p.den q.den) : Nat) : Int)
    ∧ ((p + q).den : Int) = (p.den : Int) / ((Nat.gcd p.den q.den : Nat) : Int) * ((q.den : Int) / ((Nat.gcd (p.num * ((q.den : Int) / ((Nat.gcd p.den q.den : Nat) : Int)) + q.num * ((p.den : Int) / ((Nat.gcd p.den q.den : Nat) : Int))).natAbs (Nat.gcd p.den q.den) : Nat) : Int)) := by
  obtain ⟨h1, h2⟩ := add_low p q
  constructor
  · rw [h1]
    simp only [Int.natCast_ediv]
  · rw [h2]
    simp only [Int.natCast_ediv, Int.natCast_mul]
theorem mul_int' (p q : Rat) : (p * q).num = p.num / ((Nat.gcd p.num.natAbs q.den : Nat) : Int) * (q.num / ((Nat.gcd q.num.natAbs p.den : Nat) : Int)) ∧ ((p * q).den : Int) = (p.den : Int) / ((Nat.gcd q.num.natAbs p.den : Nat) : Int) * ((q.den : Int) / ((Nat.gcd p.num.natAbs q.den : Nat) : Int)) := by
  obtain ⟨h1, h2⟩ := mul_low p q
  refine ⟨h1, ?_⟩
  rw [h2]
  simp only [Int.natCast_ediv, Int.natCast_mul]
theorem abs_div_le (a b : Int) (hb : 0 < b) : (a / b).natAbs ≤ a.natAbs := by
  have h1 := Int.natAbs_ediv_le_natAbs a b
  exact h1
end Yk
namespace Yk
def cmpQ' (p q : Rat) : Int := if p < q then -1 else if q < p then 1 else 0
theorem cmp_add (p q r : Rat) : cmpQ' (p + r) (q + r) = cmpQ' p q := by
  unfold cmpQ'
  have h1 : p + r < q + r ↔ p < q := Rat.add_lt_add_right
  have h2 : q + r < p + r ↔ q < p := Rat.add_lt_add_right
  simp only [h1, h2]
theorem cmp_more (p r : Rat) (hr : 0 ≤ r) : cmpQ' (p + r) p = if 0 < r then 1 else 0 := by
  unfold cmpQ'
  by_cases h : 0 < r
  · rw [if_neg (by grind), if_pos (by grind), if_pos h]
  · rw [if_neg (by grind), if_neg (by grind), if_neg h]
theorem cmp_mul (p q r : Rat) (hr : 0 ≤ r) : cmpQ' (p * r) (r * q) = if 0 < r then cmpQ' p q else 0 := by
  rw [Rat.mul_comm r q]
  unfold cmpQ'
  by_cases h : 0 < r
  · have h1 : p * r < q * r ↔ p < q := Rat.mul_lt_mul_right h
    have h2 : q * r < p * r ↔ q < p := Rat.mul_lt_mul_right h
    simp only [h1, h2, if_pos h]
  · have e : r = 0 := by grind
    subst e
    simp
theorem add_nn {a b : Rat} (h1 : 0 ≤ a) (h2 : 0 ≤ b) : 0 ≤ a + b := Rat.add_nonneg h1 h2
theorem mul_nn {a b : Rat} (h1 : 0 ≤ a) (h2 : 0 ≤ b) : 0 ≤ a * b := Rat.mul_nonneg h1 h2
theorem r_sub1 (p q : Rat) : p + q - q = p := by grind
theorem r_sub2 (p q r : Rat) : p + q + r - (r + q) = p := by grind
theorem r_sub3 (p : Rat) : p - p = 0 := by grind
theorem r_div1 {p q : Rat} (h : 0 < q) : p * q / q = p := by grind
theorem r_div2 {p q : Rat} (h : 0 < q) : p / q * q = p := by grind
theorem r_div3 {q : Rat} (h : 0 < q) : q / q = 1 := by grind
theorem r_dist (p q r : Rat) : p * q + p * r = p * (q + r) := by grind
theorem le1 {p q : Rat} (h : 0 ≤ p) : q ≤ p + q := by grind
theorem le2 {p q r : Rat} (h : 0 ≤ p) : r + q ≤ p + q + r := by grind
theorem num_pos_iff {r : Rat} (h : 0 ≤ r) : 0 < r.num ↔ 0 < r := by
  constructor
  · intro h1
    exact (Rat.lt_iff 0 r).mpr (by simpa using h1)
  · exact num_pos'
theorem sz_div {m n : Nat} {a b : Rat} (ha : Sz m a) (hb : Sz n b) (h : 0 < b) : Sz (m + n) (a / b) := by
  rw [Rat.div_def]
  exact sz_mul ha (sz_inv hb h)
end Yk

set_option maxHeartbeats 1000000
namespace Yk
open PySem PySem.Spec PyProof.Rows L2
def top (i : Nat) : Stmt := PySem.Challenge.pw_bandheld_k80_whole_windows_by_parts.main.body.getD i (.Pass ⟨0, 0, 0, 0⟩)
structure Bt (mg : Str → Option Value) : Prop where
  int : mg "int" = none
  len : mg "len" = none
  list : mg "list" = none
  tuple : mg "tuple" = none
  str : mg "str" = none
  bool : mg "bool" = none
  max : mg "max" = none
  min : mg "min" = none
  all : mg "all" = none
  any : mg "any" = none
  sum : mg "sum" = none
  isinstance : mg "isinstance" = none
  zip : mg "zip" = none
  range : mg "range" = none
  divmod : mg "divmod" = none
structure Bg (mg : Str → Option Value) : Prop extends Bt mg where
  gcd : mg "gcd" = some (.builtin "math.gcd")
/-- an amount: its two numbers in a tuple -/
def Am (K : PySem.W.Frag) (H : Hp) (v : V) (q : Rat) : Prop := ∃ a, v = .ref a ∧ SqT K H a [.int q.num, .int (q.den : Int)]
theorem Am.x {S : List Addr} {K : PySem.W.Frag} {H H1 : Hp} {v : V} {q : Rat} (e : Ext S H H1) (h : Am K H v q) (hs : ∀ b ∈ S, ∃ l, H b = some (.lst l)) : Am K H1 v q := by
  obtain ⟨a, rfl, h⟩ := h
  exact ⟨a, rfl, tupX e h hs⟩
theorem Am.x0 {K : PySem.W.Frag} {H H1 : Hp} {v : V} {q : Rat} (e : Ext [] H H1) (h : Am K H v q) : Am K H1 v q := h.x e fun _ z => nomatch z
/-- what an amount's promise hands back -/
def RetAm (K : PySem.W.Frag) (H : Hp) (Q : VK) (q : Rat) : Prop := ∀ v H', Ext [] H H' → Am K H' v q → Q v H'
def spAdded (K : PySem.W.Frag) : Sp := fun vs H Q _ => ∃ v1 v2 p q, vs = [v1, v2] ∧ Am K H v1 p ∧ Am K H v2 q ∧ Sz 4000 p ∧ Sz 4000 q ∧ RetAm K H Q (p + q)
end Yk
namespace Yk
open PySem PySem.Spec PyProof.Rows L2
theorem cdiv {n : Nat} {i : Int} {b : Nat} (h0 : 0 < b) (hb : b < 2 ^ n) (hn : 0 < n) (h9 : n ≤ 9000) : CDivW i (b : Int) := wide_div (by omega) (by simpa using hb) hn h9
theorem cmul {m n : Nat} {i j : Int} (hi : i.natAbs < 2 ^ m) (hj : j.natAbs < 2 ^ n) (h0 : 0 < m) (h1 : 0 < n) (h : m + n ≤ 1000000) : CMulW i j := wide_mul hi hj h0 h1 h
theorem dlt {n : Nat} {a b : Int} (h : a.natAbs < 2 ^ n) : (a / b).natAbs < 2 ^ n := Nat.lt_of_le_of_lt (Int.natAbs_ediv_le_natAbs a b) h
end Yk
namespace Yk
open PySem PySem.Spec PyProof.Rows L2
/-- a row of amounts -/
def Ams (K : PySem.W.Frag) (H : Hp) (vs : List V) (qs : List Rat) : Prop := vs.length = qs.length ∧ ∀ (i : Nat) (v : V) (q : Rat), vs[i]? = some v → qs[i]? = some q → Am K H v q
theorem Ams.x {S : List Addr} {K : PySem.W.Frag} {H H1 : Hp} {vs : List V} {qs : List Rat} (e : Ext S H H1) (h : Ams K H vs qs) (hs : ∀ b ∈ S, ∃ l, H b = some (.lst l)) : Ams K H1 vs qs := ⟨h.1, fun i v q a b => (h.2 i v q a b).x e hs⟩
theorem Ams.x0 {K : PySem.W.Frag} {H H1 : Hp} {vs : List V} {qs : List Rat} (e : Ext [] H H1) (h : Ams K H vs qs) : Ams K H1 vs qs := h.x e fun _ z => nomatch z
theorem Ams.at_ {K : PySem.W.Frag} {H : Hp} {vs : List V} {qs : List Rat} (h : Ams K H vs qs) {i : Nat} {v : V} (hv : vs[i]? = some v) : ∃ q, qs[i]? = some q ∧ Am K H v q := by
  have hi : i < qs.length := by rw [← h.1]; exact (List.getElem?_eq_some_iff.mp hv).1
  exact ⟨qs[i], List.getElem?_eq_getElem hi, h.2 i v _ hv (List.getElem?_eq_getElem hi)⟩
theorem Ams.nil {K : PySem.W.Frag} {H : Hp} : Ams K H [] [] := ⟨rfl, fun i v q h => by simp at h⟩
theorem Ams.cons {K : PySem.W.Frag} {H : Hp} {v : V} {q : Rat} {vs : List V} {qs : List Rat} (h : Am K H v q) (r : Ams K H vs qs) : Ams K H (v :: vs) (q :: qs) := by
  refine ⟨by simp [r.1], fun i w u a b => ?_⟩
  cases i with
  | zero =>
    simp at a b
    subst a b
    exact h
  | succ i =>
    simp at a b
    exact r.2 i w u a b
/-- the smallest, the largest of a row -/
def minQ (p : Rat) (qs : List Rat) : Rat := qs.foldl (fun m q => if q < m then q else m) p
def maxQ (p : Rat) (qs : List Rat) : Rat := qs.foldl (fun m q => if m < q then q else m) p
theorem fold_take {α : Type} {f : α → Rat → α} {z : α} {qs : List Rat} {i : Nat} {q : Rat} (h : qs[i]? = some q) : (qs.take (i + 1)).foldl f z = f ((qs.take i).foldl f z) q := by
  obtain ⟨hl, e⟩ := List.getElem?_eq_some_iff.mp h
  rw [← List.take_append_getElem hl, List.foldl_append, e]
  rfl
theorem minQ_mem {m : Nat} {p : Rat} : ∀ {qs : List Rat}, Sz m p → (∀ q ∈ qs, Sz m q) → Sz m (minQ p qs)
  | [], h, _ => h
  | q :: r, h, hq => by
    show Sz m (minQ (if q < p then q else p) r)
    refine minQ_mem ?_ fun x hx => hq x (List.mem_cons_of_mem _ hx)
    split
    · exact hq q List.mem_cons_self
    · exact h
theorem maxQ_mem {m : Nat} {p : Rat} : ∀ {qs : List Rat}, Sz m p → (∀ q ∈ qs, Sz m q) → Sz m (maxQ p qs)
  | [], h, _ => h
  | q :: r, h, hq => by
    show Sz m (maxQ (if p < q then q else p) r)
    refine maxQ_mem ?_ fun x hx => hq x (List.mem_cons_of_mem _ hx)
    split
    · exact hq q List.mem_cons_self
    · exact h
end Yk
namespace Yk
open PySem PySem.Spec PyProof.Rows L2
/-- what five numbers the bag may hold -/
def Bag5 (ns : List Int) (it : Addr) (l : List V) : Prop := ∃ (pos : Nat) (rest seed cnt : Int), l = [.ref it, .int (pos : Int), .int rest, .int seed, .int cnt] ∧ pos ≤ ns.length ∧ 0 ≤ rest ∧ 0 ≤ seed ∧ seed < 2147483629
structure Bag where
  a : Addr
  it : Addr
  ns : List Int
structure BagAt (K : PySem.W.Frag) (H : Hp) (b : Bag) : Prop where
  ex : ∃ l : List V, H b.a = some (.lst l) ∧ SqL K H b.it (b.ns.map V.int) ∧ b.ns.length ≤ 63 ∧ Bag5 b.ns b.it l
theorem BagAt.lst {K : PySem.W.Frag} {H : Hp} {b : Bag} (h : BagAt K H b) : ∃ l, H b.a = some (.lst l) := by
  obtain ⟨l, h1, _⟩ := h.ex
  exact ⟨l, h1⟩
theorem BagAt.x0 {K : PySem.W.Frag} {H H1 : Hp} {b : Bag} (h : BagAt K H b) (e : Ext [] H H1) : BagAt K H1 b := by
  obtain ⟨l, h1, h2, h3, h4⟩ := h.ex
  exact ⟨l, e _ _ h1 (fun z => nomatch z), lst0 e h2, h3, h4⟩
theorem BagAt.new {K : PySem.W.Frag} {H : Hp} {b : Bag} {p : Addr} {o : HO} (h : BagAt K H b) (hp : H p = none) : BagAt K (upd H p o) b := h.x0 (Ext.refl.new hp)
theorem BagAt.ne {K : PySem.W.Frag} {H : Hp} {b : Bag} {p : Addr} (h : BagAt K H b) (hp : H p = none) : b.a ≠ p := by
  obtain ⟨l, q⟩ := h.lst
  exact ne_of_none q hp
theorem BagAt.ne' {K : PySem.W.Frag} {H : Hp} {b : Bag} {p : Addr} (hp : H p = none) (h : BagAt K H b) : b.a ≠ p := h.ne hp
/-- what was new to a heap with the bag may change later -/
theorem BagAt.own {K : PySem.W.Frag} {H0 H : Hp} {b : Bag} {p : Addr} {o : HO} (h0 : BagAt K H0 b) (hp : H0 p = none) (h : BagAt K H b) : BagAt K (upd H p o) b := by
  obtain ⟨l0, a0, a1, _, _⟩ := h0.ex
  obtain ⟨l, h1, h2, h3, h4⟩ := h.ex
  refine ⟨l, by rw [upd_ne (ne_of_none a0 hp)]; exact h1, ?_, h3, h4⟩
  rcases a1 with a1 | a1
  · have hne : b.it ≠ p := by
      rcases a1 with a1 | ⟨u, a1⟩
      · exact ne_of_none a1 hp
      · exact ne_of_none a1 hp
    rcases h2 with (h2 | ⟨u, h2⟩) | h2
    · exact .inl (.inl (by rw [upd_ne hne]; exact h2))
    · exact .inl (.inr ⟨u, by rw [upd_ne hne]; exact h2⟩)
    · exact .inr h2
  · exact .inr a1
theorem tupB {K : PySem.W.Frag} {H H1 : Hp} {a : Addr} {b : Bag} {xs : List V} (hb : BagAt K H b) (e : Ext [b.a] H H1) (h : SqT K H a xs) : SqT K H1 a xs := tupX e h fun c hc => by rw [List.mem_singleton.mp hc]; exact hb.lst
theorem Am.b {K : PySem.W.Frag} {H H1 : Hp} {b : Bag} {v : V} {q : Rat} (hb : BagAt K H b) (e : Ext [b.a] H H1) (h : Am K H v q) : Am K H1 v q := h.x e fun c hc => by rw [List.mem_singleton.mp hc]; exact hb.lst
theorem Am.b' {K : PySem.W.Frag} {H H1 : Hp} {b : Bag} {v : V} {q : Rat} (e : Ext [b.a] H H1) (hb : BagAt K H b) (h : Am K H v q) : Am K H1 v q := h.b hb e
theorem Ams.b {K : PySem.W.Frag} {H H1 : Hp} {b : Bag} {v : List V} {q : List Rat} (hb : BagAt K H b) (e : Ext [b.a] H H1) (h : Ams K H v q) : Ams K H1 v q := h.x e fun c hc => by rw [List.mem_singleton.mp hc]; exact hb.lst
theorem Am.n {K : PySem.W.Frag} {H : Hp} {p : Addr} {o : HO} {v : V} {q : Rat} (h : Am K H v q) (hp : H p = none) : Am K (upd H p o) v q := h.x0 (Ext.refl.new hp)
theorem am_lit {K : PySem.W.Frag} {H : Hp} {a : Addr} {n : Int} {d : Nat} (hd : d ≠ 0) (hc : n.natAbs.Coprime d) (h : SqT K H a [.int n, .int (d : Int)]) : Am K H (.ref a) ⟨n, d, hd, hc⟩ := ⟨a, rfl, h⟩
end Yk

open PySem PySem.Spec PyProof.Rows L2 Yk
local macro_rules | `(tactic| walk_at "sq") => `(tactic| first
  | assumption
  | exact tupS
  | exact lstS
  | ((refine' tupN ?h1 (by assumption)); (case h1 => walk_at "sq"))
  | ((refine' lstN ?h1 (by assumption)); (case h1 => walk_at "sq"))
  | ((refine' tup0 (by assumption) ?h1); (case h1 => walk_at "sq"))
  | ((refine' lst0 (by assumption) ?h1); (case h1 => walk_at "sq")))
local macro_rules | `(tactic| walk_at "side") => `(tactic| first | assumption | decide | omega | exact Or.inr ⟨by decide, by decide⟩ | exact ⟨by decide, by decide, by decide⟩ | exact ⟨by decide, by decide +kernel⟩)
local macro_rules | `(tactic| walk_at "ty") => `(tactic| first
  | exact TyX.base TyOf.non
  | exact TyX.base (TyOf.bl _)
  | exact TyX.base (TyOf.int _)
  | exact TyX.base (TyOf.str _)
  | ((refine' tyT ?h1); (case h1 => walk_at "sq"))
  | ((refine' tyL ?h1); (case h1 => walk_at "sq")))
local macro_rules | `(tactic| walk_at "st") => `(tactic| first
  | with_reducible refine' r_seq ?_
  | with_reducible refine' r_asg ?_
  | with_reducible refine' r_ret ?_
  | with_reducible refine' r_drop ?_
  | with_reducible refine' r_ifS ?_
  | with_reducible refine' r_par ?_
  | with_reducible refine' r_name ?_
  | with_reducible refine' r_gCons ?_
  | with_reducible refine' r_gNil ?_
  | with_reducible refine' r_gSub ?_
  | ((with_reducible refine' r_gTup ?h1 ?h2 ?h3); (case h1 => walk_at "sq"); (case h2 => rfl))
  | with_reducible refine' r_op ?_
  | with_reducible refine' r_un ?_
  | with_reducible refine' r_c ?_
  | ((with_reducible refine' r_var ?h1 ?h2); (case h1 => rfl))
  | with_reducible refine' r_I0 ?_
  | with_reducible refine' r_U ?_
  | ((with_reducible refine' r_I ?h1 ?h2); (case h1 => walk_at "side"))
  | ((with_reducible refine' r_ixT ?h1 ?h2 ?h3); (case h1 => walk_at "sq"); (case h2 => rfl))
  | ((with_reducible refine' r_ixL ?h1 ?h2 ?h3); (case h1 => walk_at "sq"); (case h2 => rfl))
  | with_reducible refine' r_cons ?_
  | with_reducible refine' r_nil ?_
  | with_reducible refine' r_tup ?_
  | with_reducible refine' r_lst ?_
  | with_reducible refine' r_CB ?_
  | with_reducible refine' r_R ?_
  | with_reducible refine' r_R1 ?_
  | with_reducible refine' r_star ?_
  | with_reducible refine' r_RS ?_
  | with_reducible refine' r_RX ?_
  | with_reducible refine' r_gcd ?_
  | ((with_reducible refine' r_aug ?h1 ?h2); (case h1 => rfl))
  | with_reducible refine' r_ipI ?_
  | ((with_reducible refine' r_app ?h1 ?h2 ?h3); (case h1 => assumption); (case h2 => first | assumption | omega))
  | with_reducible refine' r_test ?_
  | with_reducible refine' r_B ?_
  | with_reducible refine' r_bl ?_
  | with_reducible refine' r_if ?_
  | with_reducible refine' r_and ?_
  | with_reducible refine' r_or ?_
  | with_reducible refine' r_not ?_
  | with_reducible refine' r_next ?_
  | with_reducible refine' r_int ?_
  | with_reducible refine' r_exI ?_
  | with_reducible refine' r_andV ?_
  | with_reducible refine' r_orV ?_
  | with_reducible refine' r_notV ?_
  | ((with_reducible refine' r_isi ?h1 ?h2 ?h3); (case h1 => walk_at "ty"); (case h2 => rfl))
  | ((with_reducible refine' r_isiT ?h1 ?h2 ?h3 ?h4); (case h1 => exact upd_same); (case h2 => walk_at "ty"); (case h3 => rfl))
  | with_reducible refine' And.intro (rfl : V.non = V.non) ?_
  | with_reducible refine' r_BM ?_
  | with_reducible refine' r_BM0 ?_
  | with_reducible refine' r_lc ?_
  | with_reducible refine' r_yes ?_
  | with_reducible refine' r_tt ?_
  | with_reducible refine' r_iRng1 ?_
  | with_reducible refine' r_iList ?_
  | with_reducible refine' r_iTup ?_
  | with_reducible refine' r_iZip ?_
  | ((with_reducible refine' r_gUnl ?h1 ?h2 ?h3); (case h1 => walk_at "sq"); (case h2 => rfl))
  | with_reducible refine' r_slL ?_
  | with_reducible refine' r_noP ?_
  | with_reducible refine' r_part ?_
  | ((with_reducible refine' r_len ?h1 ?h2); (case h1 => (first | (refine Or.inl ?_; walk_at "sq") | (refine Or.inr ?_; walk_at "sq"))))
  | ((with_reducible refine' r_eq ?h1 ?h2); (case h1 => rfl))
  | ((with_reducible refine' r_ne ?h1 ?h2); (case h1 => rfl))
  | ((with_reducible refine' And.intro ?h1 ?h2); (case h1 => (simp only [List.length_cons, List.length_nil, List.length_map]; decide)); (intro np hnp))
  | ((with_reducible refine' Exists.intro _ (Exists.intro _ (And.intro ?h1 ?h2))); (case h1 => (show ([_, _] : List V) = [_, _]; rfl)))
  | ((with_reducible refine' Exists.intro _ (And.intro ?h1 ?h2)); (case h1 => (first | (show ([_] : List V) = arr _ _ _ _ _; rfl) | (show ([_, _] : List V) = arr _ _ _ _ _; rfl) | (show ([_, _, _] : List V) = arr _ _ _ _ _; rfl)))))
local macro_rules | `(tactic| walk_at "go") => `(tactic| repeat walk_at "st")
local macro_rules | `(tactic| walk_at "bag") => `(tactic| first
  | assumption
  | (refine BagAt.new ?_ (by assumption); walk_at "bag")
  | (refine BagAt.x0 ?_ (by assumption); walk_at "bag"))
local macro_rules | `(tactic| walk_at "ext") => `(tactic| first
  | assumption
  | exact Ext.refl
  | (refine Ext.new ?_ (by assumption); walk_at "ext")
  | (refine Ext.trans ?_ (by assumption); walk_at "ext"))
local macro_rules | `(tactic| walk_at "ams") => `(tactic| first
  | exact Ams.nil
  | (refine Ams.cons ?_ ?_; (first | assumption | (refine am_lit _ _ ?_; walk_at "sq")); walk_at "ams"))
local macro_rules | `(tactic| walk_at "br") => `(tactic| first
  | ((with_reducible refine' r_true ?h1 ?h2); (case h1 => rfl))
  | ((with_reducible refine' r_false ?h1 ?h2); (case h1 => rfl)))
local macro_rules | `(tactic| walk_at "run") => `(tactic| repeat (first | walk_at "st" | walk_at "br"))
local macro_rules | `(tactic| walk_at "am") => `(tactic| first
  | assumption
  | (refine Am.x0 (by assumption) ?_; walk_at "am")
  | (refine Am.n ?_ (by assumption); walk_at "am")
  | (refine Am.b' (by assumption) (by assumption) ?_; walk_at "am"))
set_option maxHeartbeats 1000000
/-! A head whose part of the heap is told by a written list of addresses; its run's looks in pieces. -/
namespace Hk
open PySem PySem.Spec PyProof.Rows L2 He
/-- a def that stands at a path of the part -/
structure DefP where
  path : PySem.W.Frag → Addr
  name : Str
  qual : Str
  params : Arguments
  body : List Stmt
  scope : Scope
  dfl : List Dv := []
  kwd : List (Str × Dv) := []
def DefP.val (d : DefP) : FnW := some (d.name, d.qual, d.params, .stmts d.body, d.scope, mainGlobals, [], builtinsNs)
def DefP.dvs (K : PySem.W.Frag) (d : DefP) : List V := d.dfl.map (Dv.v K)
def DefP.kws (K : PySem.W.Frag) (d : DefP) : List (Str × V) := d.kwd.map fun q => (q.1, q.2.v K)
def seen (K : PySem.W.Frag) (a : Addr) : FnW := match K.lookup a with
  | some o => (match o.data with
    | .func u => some (u.name, u.qualname, u.params, u.body, u.scope, u.globals, u.closure, u.builtins)
    | _ => none)
  | none => none
def good (K : PySem.W.Frag) (d : DefP) (a : Addr) : Bool := PySem.W.keepIn K (.ref a) && match K.lookup a with
  | some o => (match o.data with
    | .func u => PySem.W.codeIn K u.code d.qual && (dflB K u.defaults (d.dvs K) && kwdB K u.kwdefaults (d.kws K))
    | _ => false)
  | none => false
theorem funD_of {K : PySem.W.Frag} {d : DefP} (e : seen K (d.path K) = d.val) (c : good K d (d.path K) = true) : ∃ fd, FunD K d.name d.qual d.params d.body d.scope (d.dvs K) (d.kws K) (d.path K) fd := by
  obtain ⟨kp, c2⟩ := Bool.and_eq_true_iff.mp c
  unfold seen at e
  generalize ha : d.path K = a at *
  cases q : K.lookup a with
  | none => simp only [q] at c2; cases c2
  | some o =>
    simp only [q] at c2 e
    obtain ⟨oc, od, dt, osl⟩ := o
    cases dt with
    | func fd =>
      dsimp only at c2 e
      obtain ⟨k1, k2⟩ := Bool.and_eq_true_iff.mp c2
      obtain ⟨k3, k4⟩ := Bool.and_eq_true_iff.mp k2
      obtain ⟨m1, m2, m3, m4, m5, m6, m7, m8, m9, m10, m11, m12, m13, m14, m15⟩ := fd
      unfold DefP.val at e
      dsimp only at e k1 k3 k4
      injection e with e
      injection e with e1 e; injection e with e2 e; injection e with e3 e; injection e with e4 e; injection e with e5 e; injection e with e6 e; injection e with e7 e8
      subst e1 e2 e3 e4 e5 e6 e7 e8
      exact ⟨_, ⟨oc, od, m8, m9, m10, m11, m12, m13, m14, osl, rfl, q, k1, dflB_ok k3, kwdB_ok k4⟩, kp⟩
    | _ => dsimp only at c2; cases c2
abbrev Al : Type := Bool × List FnW
def look (as : List Addr) (fa : List Fa) (fn : List DefP) (ex : PySem.W.Frag → Bool) (K : PySem.W.Frag) : Al := ((fa.all fun f => f.ok K) && ((fn.all fun d => good K d (d.path K)) && ex K), fn.map fun d => seen K (d.path K))
def due (fn : List DefP) : Al := (true, fn.map DefP.val)
structure Says (fa : List Fa) (fn : List DefP) (ex : PySem.W.Frag → Bool) (K : PySem.W.Frag) : Prop where
  fact : ∀ (i : Nat) (f : Fa), fa[i]? = some f → f.ok K = true
  def_ : ∀ (i : Nat) (d : DefP), fn[i]? = some d → ∃ fd, FunD K d.name d.qual d.params d.body d.scope (d.dvs K) (d.kws K) (d.path K) fd
  more : ex K = true
theorem says_of {as : List Addr} {fa : List Fa} {fn : List DefP} {ex : PySem.W.Frag → Bool} {K : PySem.W.Frag} (e : look as fa fn ex K = due fn) : Says fa fn ex K := by
  have e1 : ((fa.all fun f => f.ok K) && ((fn.all fun d => good K d (d.path K)) && ex K)) = true := congrArg (·.1) e
  have e2 : (fn.map fun d => seen K (d.path K)) = fn.map DefP.val := congrArg (·.2) e
  obtain ⟨h1, h⟩ := Bool.and_eq_true_iff.mp e1
  obtain ⟨h2, h3⟩ := Bool.and_eq_true_iff.mp h
  refine ⟨fun i f hf => List.all_eq_true.mp h1 f (List.mem_of_getElem? hf), fun i d hd => funD_of ?_ (List.all_eq_true.mp h2 d (List.mem_of_getElem? hd)), h3⟩
  have e3 := congrArg (fun l : List FnW => l[i]?) e2
  rw [List.getElem?_map, List.getElem?_map, hd] at e3
  exact Option.some.inj e3
/-- by the written addresses -/
def obG (as : List Addr) (fa : List Fa) (fn : List DefP) (ex : PySem.W.Frag → Bool) (g : Addr → Option Obj) : Al := look as fa fn ex (frG g as)
def hook (as : List Addr) (fa : List Fa) (fn : List DefP) (ex : PySem.W.Frag → Bool) : PySem.W.Hook where
  α := Al
  obs := fun s => obG as fa fn ex s.heap.get?
  val := fun _ => due fn
  says := fun _ h => ∃ K : PySem.W.Frag, K.In h ∧ Says fa fn ex K
  of := fun _ _ e => ⟨_, frG_in, says_of e⟩
  keeps := fun _ _ _ ⟨K, hK, c⟩ k => ⟨K, PySem.W.Frag.In.keeps hK k, c⟩
theorem obG_eq {as : List Addr} {fa : List Fa} {fn : List DefP} {ex : PySem.W.Frag → Bool} {g : Addr → Option Obj} {s : Shared} (h : ∀ a, g a = s.heap.get? a) : obG as fa fn ex g = (hook as fa fn ex).obs s := by
  have e : g = s.heap.get? := funext h
  rw [e]
  rfl
end Hk
namespace Hk
open PySem PySem.W PySem.Spec PyProof.Rows L2 He HandSHeadRun
/-- the def behind a property -/
def getter (K : PySem.W.Frag) (p : Addr) : Addr := match PySem.W.recIn K p "property" with
  | some (.ref g :: _) => g
  | _ => 0
noncomputable abbrev whole (r : OpenRow) (M : Nat) (w : World) := wholeF (fun p => stepQ (denQ tabQ) p w) fenceQ M r.prog
/-- one look at the run's end -/
def At {α : Type} (r : OpenRow) (M : Nat) (w : World) (f : Shared × SharedT → α) (v : α) : Prop := (whole r M w).map f = some v
theorem At.and {r : OpenRow} {M : Nat} {w : World} {f g : Shared × SharedT → Bool} (a : At r M w f true) (b : At r M w g true) : At r M w (fun x => f x && g x) true := by
  obtain ⟨x, hx, ex⟩ := Option.map_eq_some_iff.mp a
  obtain ⟨y, hy, ey⟩ := Option.map_eq_some_iff.mp b
  rw [hx] at hy
  cases hy
  exact Option.map_eq_some_iff.mpr ⟨x, hx, by rw [ex, ey]; rfl⟩
theorem join {r : OpenRow} {q : Program} {M : Nat} {loose : List Str} {w : World} {as : List Addr} {fa : List Fa} {fn : List DefP} {ex : Frag → Bool}
    (a : At r M w (fun x => obG as fa fn ex (getT x.2)) (due fn)) (b : At r M w (fun x => staticsOk (importedModules r.prog.main.body) x.1.heap x.2.abs.heap && laidKept x.1.heap x.2.abs.heap) true)
    (b2 : At r M w (fun x => namesBound r.prog x.2.abs.heap && gensDone x.2.abs) true)
    (c : At r M w (fun x => seenQ q loose (importedModules r.prog.main.body) (fun s => xlAt q [] s && recOk r.toRowW.records s) x.2.abs) (openGood q loose)) : RunEqI r q (hook as fa fn ex) (fun s => obG as fa fn ex (getT s)) M loose w := by
  obtain ⟨x, hx, e1⟩ := Option.map_eq_some_iff.mp a
  obtain ⟨x2, hx2, e2⟩ := Option.map_eq_some_iff.mp b
  obtain ⟨x3, hx3, e3⟩ := Option.map_eq_some_iff.mp b2
  obtain ⟨x4, hx4, e4⟩ := Option.map_eq_some_iff.mp c
  rw [hx] at hx2 hx3 hx4
  cases hx2
  cases hx3
  cases hx4
  obtain ⟨p1, p2⟩ := Bool.and_eq_true_iff.mp e2
  obtain ⟨p3, p4⟩ := Bool.and_eq_true_iff.mp e3
  refine Option.map_eq_some_iff.mpr ⟨x, hx, ?_⟩
  have l : looksF r.prog x.1.heap x.2.abs = true := by
    unfold looksF
    rw [p1, p2, p3, p4]
    rfl
  rw [l, e4]
  exact congrArg (fun z => (true, openGood q loose, z)) e1
end Hk
namespace Hk
open PySem PySem.W PySem.Spec PyProof.Rows L2 He
/-- the class x has the name f as a property -/
def propB (K : Frag) (x f : Str) : Bool := eqO (findIn K (.ref (ga K x)) f) (some (some (.ref (ma K (ga K x) f)))) && (eqO (specialIn K (.ref (ma K (ga K x) f)) "__get__") (some (some (.builtin "property.__get__"))) &&
  (decide (takesIn K (.ref (ma K (ga K x) f)) = some true) && (match recIn K (ma K (ga K x) f) "property" with
    | some (.ref _ :: _) => true
    | _ => false)))
theorem propB_ok {K : Frag} {x f : Str} (h : propB K x f = true) : PropOf K (ga K x) f (ma K (ga K x) f) (getter K (ma K (ga K x) f)) := by
  obtain ⟨h1, h⟩ := Bool.and_eq_true_iff.mp h
  obtain ⟨h2, h⟩ := Bool.and_eq_true_iff.mp h
  obtain ⟨h3, h4⟩ := Bool.and_eq_true_iff.mp h
  refine ⟨eqO_ok h1, eqO_ok h2, of_decide_eq_true h3, ?_⟩
  unfold getter
  cases e : recIn K (ma K (ga K x) f) "property" with
  | none => rw [e] at h4; cases h4
  | some l =>
    rw [e] at h4
    cases l with
    | nil => cases h4
    | cons v r =>
      cases v with
      | ref g => exact ⟨r, rfl⟩
      | _ => cases h4
end Hk

set_option maxHeartbeats 1000000
/-! Classes: fields, methods and making by names; all promises are told by place. -/
namespace Yk
open PySem PySem.Spec PyProof.Rows L2
/-- a class of the text: its name's place, and the fields that its text has not -/
structure Ct (K : PySem.W.Frag) (mg : Str → Option Value) (x : Str) (C : Addr) (fs : List Str) : Prop where
  hm : mg x = some (.ref C)
  cls : Cls K C
  no : ∀ f ∈ fs, NoAttr K C f
/-- the object at a -/
def Ob (H : Hp) (C : Addr) (a : Addr) (fs : List (Str × V)) : Prop := ∃ dx, H a = some (.ins C dx fs)
theorem Ob.x {S : List Addr} {H H1 : Hp} {C a : Addr} {fs : List (Str × V)} (e : Ext S H H1) (h : Ob H C a fs) (hs : ∀ b ∈ S, ∃ l, H b = some (.lst l)) : Ob H1 C a fs := by
  obtain ⟨dx, h⟩ := h
  exact ⟨dx, e a _ h fun z => by obtain ⟨l, q⟩ := hs a z; rw [h] at q; cases q⟩
theorem Ob.x0 {H H1 : Hp} {C a : Addr} {fs : List (Str × V)} (e : Ext [] H H1) (h : Ob H C a fs) : Ob H1 C a fs := h.x e fun _ z => nomatch z
section
variable {X : Cx} {C : Addr} {x f m : Str} {fs : List Str} {o e value : Expr} {pos pos' p apos : Pos} {te ta tv : TE}
/-- e.f -/
def tAt (C : Addr) (f : Str) (te : TE) : TE := fun σ H Q => te σ H fun x H1 => ∃ a dx fs v, x = .ref a ∧ H1 a = some (.ins C dx fs) ∧ fs.lookup f = some v ∧ Q v H1
theorem pe_at (c : Ct X.K X.mg x C fs) (hf : f ∈ fs) (he : PE X e te) (hb : attributeBase e f X.env (eval e X.env) = eval e X.env := by rfl) : PE X (.Attribute e f pos) (tAt C f te) := by
  refine ⟨fun pins s σ H Q I h => ?_⟩
  refine attr_of hb (thn (he.run pins s σ H _ I h) fun u s1 ⟨x, H1, I1, rx, a, dx, fs, v, ex, ea, l, q⟩ => ?_)
  subst ex
  obtain rfl : u = Value.ref a := rx
  exact getattr_ok I1 ea c.cls (c.no _ hf) l fun u' s2 I2 ru => ⟨v, H1, I2, ru, q⟩
theorem r_at {a : Addr} {v : V} {fs : List (Str × V)} {σ : L2.St} {H : Hp} {Q : VK} (h1 : Ob H C a fs) (h2 : fs.lookup f = some v) (h : Q v H) : (fun x H1 => ∃ a dx fs v, x = V.ref a ∧ H1 a = some (.ins C dx fs) ∧ fs.lookup f = some v ∧ Q v H1) (V.ref a) H := by
  obtain ⟨dx, h1⟩ := h1
  exact ⟨a, dx, fs, v, rfl, h1, h2, h⟩
/-- e.f = value -/
def sAt (C : Addr) (f : Str) (te tv : TE) : TS := fun D σ H => tv σ H fun y H1 => te σ H1 fun x H2 => ∃ a dx fs, x = .ref a ∧ H2 a = some (.ins C dx fs) ∧ fs.length < 1000 ∧ D.nx σ (upd H2 a (.ins C dx (putF f y fs)))
theorem ps_at (c : Ct X.K X.mg x C fs) (hf : f ∈ fs) (ha : PE X o te) (hv : PE X value tv) (hs : swapsWith value (some (.Attribute o f pos')) pos.line X.env = pure false := by rfl) : PS X (.Assign [.Attribute o f pos'] value pos) (sAt C f te tv) := by
  refine ⟨fun pins s σ H D I h => ?_⟩
  refine plainObj_wpAny_Assign_Attribute (thn (hv.run pins s σ H _ I h) fun u s1 ⟨y, H1, I1, ry, q⟩ => thn (ha.run pins s1 σ H1 _ I1 q) fun ov s2 ⟨x, H2, I2, rx, a, dx, fs, ex, ea, l, q2⟩ => ?_) hs
  subst ex
  obtain rfl : ov = Value.ref a := rx
  exact setattr_ok I2 ea c.cls (c.no _ hf) l ry fun s3 I3 => ⟨σ, _, I3, q2⟩
end
section
variable (P : Program) (w : World) (K : PySem.W.Frag) (mg : Str → Option Value) (base : Heap)
/-- a method -/
structure Mt (k : Nat) (C : Addr) (m : Str) (sp : Sp) : Prop where
  run : ∃ f, Cls K C ∧ Meth K C m f ∧ FnR P w K mg base CX0 k f sp
/-- what makes an object: by place -/
structure Cr (k : Nat) (x : Str) (C : Addr) (sp : Sp) : Prop where
  run : ∃ f, mg x = some (.ref C) ∧ Mk K C f ∧ FnR P w K mg base CX0 k f sp
/-- .. with n values by place and the keywords ks: the parameters (the object ahead) are gV's -/
structure CrK (k : Nat) (x : Str) (C : Addr) (n : Nat) (ks : List Str) (gV : List V → List V → List V) (sp : Sp) : Prop where
  run : ∃ f fd ps g, mg x = some (.ref C) ∧ Mk K C f ∧ FnOk P w K mg base CX0 k f fd ps sp ∧ KBn K fd ps (n + 1) ks g gV
end
section
variable {X : Cx} {k n : Nat} {C : Addr} {sp : Sp} {x m : Str} {o e : Expr} {es : List Expr} {kws : List Keyword} {pos p apos : Pos} {te : TE} {t tk : TA} {pl : Sem Bool} {ks : List Str} {gV : List V → List V → List V}
/-- o.m(..) -/
def tMt (C : Addr) (m : Str) (sp : Sp) (te : TE) (t : TA) : TE := fun σ H Q => te σ H fun x H1 => ∃ a dx fs, x = .ref a ∧ H1 a = some (.ins C dx fs) ∧ fs.lookup m = none ∧ t σ H1 fun vs H2 => sp (x :: vs) H2 Q E0
theorem pe_mt (F : Mt X.prog X.w X.K X.mg X.base k C m sp) (hr : Room k X.A) (he : PE X o te) (ha : PA X (e :: es) t) (hx : Passes CX0 X E0 := by exact pass0)
    (hst : starEach (e :: es) X.env = (false, eval e X.env) :: starEach es X.env := by rfl) (hpl : (backTo pos (starEach es X.env)).any (·.1) = false := by rfl)
    (ht : eval (.Call (.Attribute o m apos) (e :: es) [] pos) X.env = (do
      let ov ← eval o X.env
      standAt apos.atName
      let (f, first) ← holding [ov] (getMethod ov m pl)
      callWith pos f first (backTo pos (starEach (e :: es) X.env)) (backToKw pos (keywordEach [] X.env))) := by rfl) :
    PE X (.Call (.Attribute o m apos) (e :: es) [] pos) (tMt C m sp te t) := by
  obtain ⟨f, c, hm, F⟩ := F.run
  refine ⟨fun pins s σ H Q I h => ?_⟩
  refine PySem.W.methodCall_KW (pl := pl) (thn (he.run pins s σ H _ I h) fun u s1 ⟨x, H1, I1, rx, a, dx, fs, ex, ea, l, q⟩ => ?_) ht
  subst ex
  obtain rfl : u = Value.ref a := rx
  refine getmeth_ok I1 ea c hm l ?_
  refine PySem.W.callWith_K (first := [.ref a]) (h₀ := X.base) I.ok.mod.kin hm.kp (thn (ha.run pos pins s1 σ H1 _ I1 q) fun us s2 ⟨vs, H2, I2, r, q2⟩ => ⟨I2.kIn, ?_⟩) hst hpl
  exact wpAny_call (run_fnR (us := .ref a :: us) (vs := .ref a :: vs) F hr hx I2 (.cons rfl r) q2)
theorem pe_mt0 (F : Mt X.prog X.w X.K X.mg X.base k C m sp) (hr : Room k X.A) (he : PE X o te) (hx : Passes CX0 X E0 := by exact pass0)
    (ht : eval (.Call (.Attribute o m apos) [] [] pos) X.env = (do
      let ov ← eval o X.env
      standAt apos.atName
      let (f, first) ← holding [ov] (getMethod ov m pl)
      callWith pos f first (backTo pos (starEach [] X.env)) (backToKw pos (keywordEach [] X.env))) := by rfl) :
    PE X (.Call (.Attribute o m apos) [] [] pos) (tMt C m sp te tNil) := by
  obtain ⟨f, c, hm, F⟩ := F.run
  refine ⟨fun pins s σ H Q I h => ?_⟩
  refine PySem.W.methodCall_KW (pl := pl) (thn (he.run pins s σ H _ I h) fun u s1 ⟨x, H1, I1, rx, a, dx, fs, ex, ea, l, q⟩ => ?_) ht
  subst ex
  obtain rfl : u = Value.ref a := rx
  refine getmeth_ok I1 ea c hm l ?_
  exact PySem.W.callWith_K0 (first := [.ref a]) I1.kIn hm.kp (wpAny_call (run_fnR (us := [.ref a]) (vs := [.ref a]) F hr hx I1 (.cons rfl .nil) q))
/-- C(e, ..) -/
def tCr (C : Addr) (sp : Sp) (t : TA) : TE := fun σ H Q => t σ H fun vs H1 => ∀ x dx, H1 x = Option.none → H1 dx = Option.none → dx ≠ x → sp (V.ref x :: vs) (upd (upd H1 dx (.own x)) x (.ins C dx [])) (fun v H2 => v = .non ∧ Q (.ref x) H2) E0
theorem pe_cr (F : Cr X.prog X.w X.K X.mg X.base k x C sp) (hr : Room (k + 1) X.A) (ha : PA X (e :: es) t) (hg : Gl X x := by rfl) (hx : Passes CX0 X E0 := by exact pass0) (hdb : (x == ("__debug__" : Str)) = false := by decide)
    (he : starEach (e :: es) X.env = (false, eval e X.env) :: starEach es X.env := by rfl) (hpl : (backTo pos (starEach es X.env)).any (·.1) = false := by rfl) : PE X (.Call (.Name x p) (e :: es) [] pos) (tCr C sp t) := by
  obtain ⟨f, hm, M, F⟩ := F.run
  exact StX.pe_makeR M F hr hg hm hx ha hdb he hpl
/-- C(e, .., *x) -/
theorem pe_crS2 (F : Cr X.prog X.w X.K X.mg X.base k x C sp) (hr : Room (k + 1) X.A) (ha : PA X (e :: es) t) (hg : Gl X x := by rfl) (hx : Passes CX0 X E0 := by exact pass0) (hdb : (x == ("__debug__" : Str)) = false := by decide)
    (he : starEach (e :: es) X.env = (false, eval e X.env) :: starEach es X.env := by rfl) (hst : (backTo pos (starEach es X.env)).any (·.1) = true := by rfl) : PE X (.Call (.Name x p) (e :: es) [] pos) (tCr C sp t) := by
  obtain ⟨f, hm, M, F⟩ := F.run
  refine ⟨fun pins s σ H Q I h => ?_⟩
  refine wpAny_Call_Name_kw (ld_glob I hg hm ?_ hdb)
  refine PySem.W.callWith_S2 (h₀ := X.base) I.ok.mod.kin M.kp (thn (ha.run pos pins s σ H _ I h) fun us s1 ⟨vs, H1, I1, r, q⟩ => ⟨I1.kIn, ?_⟩) he hst
  exact StX.run_makeR M F hr hx I1 r q
/-- C(e, .., k = v, ..) -/
def tCrK (C : Addr) (n m : Nat) (sp : Sp) (gV : List V → List V → List V) (t tk : TA) : TE := fun σ H Q => t σ H fun vs H1 => tk σ H1 fun zs H2 => vs.length = n ∧ zs.length = m ∧ ∀ x dx, H2 x = none → H2 dx = none → dx ≠ x →
  sp (gV (.ref x :: vs) zs) (upd (upd H2 dx (.own x)) x (.ins C dx [])) (fun v H3 => v = .non ∧ Q (.ref x) H3) E0
theorem pe_crK (F : CrK X.prog X.w X.K X.mg X.base k x C n ks gV sp) (hr : Room (k + 1) X.A) (ha : PA X (e :: es) t) (hkw : PK X kws tk) (hg : Gl X x := by rfl) (hx : Passes CX0 X E0 := by exact pass0)
    (hall : (backToKw pos (keywordEach kws X.env)).all (·.1.isSome) = true := by rfl) (hks : (backToKw pos (keywordEach kws X.env)).filterMap (·.1) = ks := by rfl) (hdb : (x == ("__debug__" : Str)) = false := by decide)
    (he : starEach (e :: es) X.env = (false, eval e X.env) :: starEach es X.env := by rfl) (hpl : ((backTo pos (starEach (e :: es) X.env)).any (·.1) || (backToKw pos (keywordEach kws X.env)).any (·.1.isNone)) = false := by rfl) :
    PE X (.Call (.Name x p) (e :: es) kws pos) (tCrK C n ks.length sp gV t tk) := by
  obtain ⟨f, fd, ps, g, hm, M, F, hb⟩ := F.run
  exact pe_makeK M F hr hg hm hb hx ha hkw hall hks hdb he hpl
theorem pe_crK0 (F : CrK X.prog X.w X.K X.mg X.base k x C 0 ks gV sp) (hr : Room (k + 1) X.A) (hkw : PK X kws tk) (hg : Gl X x := by rfl) (hx : Passes CX0 X E0 := by exact pass0)
    (hall : (backToKw pos (keywordEach kws X.env)).all (·.1.isSome) = true := by rfl) (hks : (backToKw pos (keywordEach kws X.env)).filterMap (·.1) = ks := by rfl) (hdb : (x == ("__debug__" : Str)) = false := by decide)
    (hpl : ((backTo pos (starEach [] X.env)).any (·.1) || (backToKw pos (keywordEach kws X.env)).any (·.1.isNone)) = false := by rfl) :
    PE X (.Call (.Name x p) [] kws pos) (tCrK C 0 ks.length sp gV tNil tk) := by
  obtain ⟨f, fd, ps, g, hm, M, F, hb⟩ := F.run
  exact pe_makeK0 M F hr hg hm hb hx hkw hall hks hdb hpl
end
section
variable {P : Program} {w : World} {K : PySem.W.Frag} {mg : Str → Option Value} {base : Heap} {f C : Addr} {fd : FuncData} {x qual : Str} {params : Arguments} {body : List Stmt} {scope : Scope} {dvs : List V} {kws : List (Str × V)} {N ps : List Str} {k : Nat} {sp : Sp}
/-- a method (or a def with defaults) keeps its promise -/
theorem ok_meth (F : FunD K x qual params body scope dvs kws f fd) (S : FnScope N ps scope) (len : ∀ vs H Q E, sp vs H Q E → vs.length = ps.length)
    (hbody : ∀ (cdv : Value) (A : Around) (outer : List Env) (s : Shared) (H : Hp) (vs : List V) (Q : VK) (E : XK), Room k (A.deeper (envOfC qual scope s.heap.objs.size f cdv)) → sp vs H Q E →
      ∃ t, PSs (cxOf CX0 P w K mg base N qual scope f cdv A outer s H E).nox body t ∧ t ⟨fun _ H' => Q .non H', Q, fun _ _ => False, fun _ _ => False⟩ (start N vs) H) : FnOk P w K mg base CX0 (k + 1) f fd ps sp :=
  F.ok S len fun cdv A outer s H vs Q E hr h => by
    obtain ⟨t, h1, h2⟩ := hbody cdv A outer s H vs Q E hr h
    exact ⟨t, h1.nox, h2⟩
theorem raw_meth (F : FunD K x qual params body scope [] [] f fd) (G : FnOk P w K mg base CX0 k f fd ps sp)
    (hb : ∀ (kV doc pm : Value) (an : Option Addr) (cdv ct : Value) (us : List Value), us.length = ps.length → bindArgs (PySem.W.fnOf x qual params body scope .none kV doc pm an cdv ct) ⟨us, []⟩ = pure (ps.zip us)) : FnR P w K mg base CX0 k f sp := by
  have b := F.bindsN hb
  have R := G.raw b .nil
  refine R.imp fun vs H Q E h => ?_
  rw [List.append_nil]
  exact h
/-- def m(self, .., *v) -/
theorem raw_star {pv : Str} {sp' : Sp} (F : FunD K x qual params body scope [] [] f fd) (S : FnScope N (ps ++ [pv]) scope)
    (hb : ∀ (kV doc pm : Value) (an : Option Addr) (cdv ct : Value) (us rest : List Value), us.length = ps.length → bindArgs (PySem.W.fnOf x qual params body scope .none kV doc pm an cdv ct) ⟨us ++ rest, []⟩ = (newTuple rest >>= fun t => pure (ps.zip us ++ [(pv, t)])))
    (hbody : ∀ (cdv : Value) (A : Around) (outer : List Env) (s : Shared) (H : Hp) (vs : List V) (Q : VK) (E : XK), Room k (A.deeper (envOfC qual scope s.heap.objs.size f cdv)) → sp vs H Q E →
      ∃ t, PSs (cxOf CX0 P w K mg base N qual scope f cdv A outer s H E).nox body t ∧ t ⟨fun _ H' => Q .non H', Q, fun _ _ => False, fun _ _ => False⟩ (start N vs) H)
    (himp : ∀ vs H Q E, sp' vs H Q E → ∃ ws rest, vs = ws ++ rest ∧ ws.length = ps.length ∧ rest.length ≤ sizeLine ∧ ∀ p, H p = none → sp (ws ++ [V.ref p]) (upd H p (.tup rest)) Q E) : FnR P w K mg base CX0 (k + 1) f sp' := by
  obtain ⟨oc, od, dV, kV, doc, pm, an, cdv, ct, osl, rfl, lk, hcd, hD, _⟩ := F.ex
  rcases hD with ⟨_, rfl⟩ | ⟨e, _⟩
  · have R := StX.fn_star (P := P) (w := w) (mg := mg) (base := base) (sp := sp) lk hcd S StX.cxUp_none (hb kV doc pm an cdv ct) (fun A outer s H vs Q E hr h => let ⟨t, h1, h2⟩ := hbody cdv A outer s H vs Q E hr h; ⟨t, h1.nox, h2⟩)
    exact R.imp himp
  · exact absurd rfl e
theorem mt_of (c : Cls K C) (hm : Meth K C x f) (R : FnR P w K mg base CX0 k f sp) : Mt P w K mg base k C x sp := ⟨f, c, hm, R⟩
theorem cr_of {y : Str} (hy : mg y = some (.ref C)) (M : Mk K C f) (R : FnR P w K mg base CX0 k f sp) : Cr P w K mg base k y C sp := ⟨f, hy, M, R⟩
end
end Yk
namespace Yk
open PySem PySem.Spec PyProof.Rows L2
theorem upd_upd {H : Hp} {a : Addr} {x y : HO} : upd (upd H a x) a y = upd H a y := by
  funext b
  by_cases h : a = b
  · subst h; rw [upd_same, upd_same]
  · rw [upd_ne (Ne.symm h), upd_ne (Ne.symm h), upd_ne (Ne.symm h)]
theorem upd_self {H : Hp} {a : Addr} {x : HO} (h : H a = some x) : upd H a x = H := by
  funext b
  by_cases q : a = b
  · subst q; rw [upd_same, h]
  · rw [upd_ne (Ne.symm q)]
section
variable {nx : L2.St → Hp → Prop} {rt : VK} {bk ct : L2.St → Hp → Prop} {σ : L2.St} {H : Hp} {K : PySem.W.Frag} {Q : VK} {te ta tb tc tv : TE} {C a dx : Addr} {f m : Str} {fs : List (Str × V)} {v y : V} {r r' : R2} {sp : Sp} {t tk : TA}
theorem r_tAt (h : te σ H fun x H1 => ∃ a dx fs v, x = .ref a ∧ H1 a = some (.ins C dx fs) ∧ fs.lookup f = some v ∧ Q v H1) : tAt C f te σ H Q := h
theorem r_fld {R : V → Prop} (h1 : H a = some (.ins C dx fs)) (h2 : fs.lookup f = some v) (h : R v) : ∃ a' dx' fs' v', V.ref a = .ref a' ∧ H a' = some (.ins C dx' fs') ∧ fs'.lookup f = some v' ∧ R v' := ⟨a, dx, fs, v, rfl, h1, h2, h⟩
theorem r_sAt (h : tv σ H fun y H1 => te σ H1 fun x H2 => ∃ a dx fs, x = .ref a ∧ H2 a = some (.ins C dx fs) ∧ fs.length < 1000 ∧ nx σ (upd H2 a (.ins C dx (putF f y fs)))) : sAt C f te tv ⟨nx, rt, bk, ct⟩ σ H := h
theorem r_put {R : Hp → Prop} (h1 : H a = some (.ins C dx fs)) (h2 : fs.length < 1000) (h : R (upd H a (.ins C dx (putF f y fs)))) : ∃ a' dx' fs', V.ref a = .ref a' ∧ H a' = some (.ins C dx' fs') ∧ fs'.length < 1000 ∧ R (upd H a' (.ins C dx' (putF f y fs'))) := ⟨a, dx, fs, rfl, h1, h2, h⟩
theorem putF_lt {N : Nat} (h : fs.length < N) : (putF f v fs).length < N + 1 := Nat.lt_of_le_of_lt (length_putF f v fs) (by omega)
theorem r_putU {R : Hp → Prop} (h2 : fs.length < 1000) (h : R (upd H a (.ins C dx (putF f y fs)))) : ∃ a' dx' fs', V.ref a = .ref a' ∧ upd H a (.ins C dx fs) a' = some (.ins C dx' fs') ∧ fs'.length < 1000 ∧ R (upd (upd H a (.ins C dx fs)) a' (.ins C dx' (putF f y fs'))) :=
  ⟨a, dx, fs, rfl, upd_same, h2, by rw [upd_upd]; exact h⟩
theorem r_tMt (h : te σ H fun x H1 => ∃ a dx fs, x = .ref a ∧ H1 a = some (.ins C dx fs) ∧ fs.lookup m = none ∧ t σ H1 fun vs H2 => sp (x :: vs) H2 Q E0) : tMt C m sp te t σ H Q := h
theorem r_met {R : Prop} (h1 : H a = some (.ins C dx fs)) (h2 : fs.lookup m = none) (h : R) : ∃ a' dx' fs', V.ref a = .ref a' ∧ H a' = some (.ins C dx' fs') ∧ fs'.lookup m = none ∧ R := ⟨a, dx, fs, rfl, h1, h2, h⟩
theorem r_tCr (h : t σ H fun vs H1 => ∀ x dx, H1 x = Option.none → H1 dx = Option.none → dx ≠ x → sp (V.ref x :: vs) (upd (upd H1 dx (.own x)) x (.ins C dx [])) (fun v H2 => v = .non ∧ Q (.ref x) H2) E0) : tCr C sp t σ H Q := h
theorem r_tCrK {n k : Nat} {gV : List V → List V → List V} (h : t σ H fun vs H1 => tk σ H1 fun zs H2 => vs.length = n ∧ zs.length = k ∧ ∀ x dx, H2 x = none → H2 dx = none → dx ≠ x →
  sp (gV (.ref x :: vs) zs) (upd (upd H2 dx (.own x)) x (.ins C dx [])) (fun v H3 => v = .non ∧ Q (.ref x) H3) E0) : tCrK C n k sp gV t tk σ H Q := h
theorem r_chain (h : ta σ H fun x H1 => tb σ H1 fun y H2 => r x y H2 fun z H3 => ∃ k, z = .bl k ∧ (if k = true then tc σ H3 fun w' H4 => r' y w' H4 Q else Q (.bl false) H3)) : tChain r r' ta tb tc σ H Q := h
theorem r_in {neg : Bool} {p : Addr} {xs : List V} {x : V} (h1 : SqL K H p xs ∨ SqT K H p xs) (h2 : flatV x = true) (h3 : xs.all flatV = true) (h : Q (.bl (if neg then !inV x xs else inV x xs)) H) : rIn K neg x (.ref p) H Q := ⟨p, xs, rfl, h1, h2, h3, h⟩
end
/-! isinstance of the text's own classes; constants of a class -/
/-- the type of the class's objects is the class -/
structure Ty1 (K : PySem.W.Frag) (C : Addr) : Prop where
  ty : ∀ (H : Hp) (a dx : Addr) (fs : List (Str × V)), H a = some (.ins C dx fs) → TyX K H (.ref a) (.ref C)
section
variable {H : Hp} {K : PySem.W.Frag} {Q : VK} {C D D1 D2 a p dx : Addr} {fs : List (Str × V)} {b : Bool} {te : TE} {f : Str} {σ : L2.St}
theorem r_isiO (Y : Ty1 K C) (h : H a = some (.ins C dx fs)) (e : PySem.W.kitOne K (.ref C) (.ref D) = some b) (k : Q (.bl b) H) : rIsi K [.ref a, .ref D] H Q := ⟨.ref a, .ref D, .ref C, .ref D, b, rfl, .own D, Y.ty _ _ _ _ h, e, k⟩
theorem r_isiOT (Y : Ty1 K C) (hp : H p = some (.tup [.ref D1, .ref D2])) (h : H a = some (.ins C dx fs)) (e : PySem.W.kitAny K (.ref C) [.ref D1, .ref D2] = some b) (k : Q (.bl b) H) : rIsiT K [.ref a, .ref p] H Q :=
  ⟨.ref a, p, [.ref D1, .ref D2], .ref C, [.ref D1, .ref D2], b, rfl, hp, .cons (.own D1) (.cons (.own D2) .nil), Y.ty _ _ _ _ h, e, k⟩
/-- C.f, a constant of the class -/
theorem r_cval {mc : Value} {v : V} {u : Value} (r : ClX.CRead K C mc) (c : ClX.CVal K C mc f v u) (h : Q v H) : ClX.tCVal K (tC (.ref C)) f σ H Q := ⟨C, mc, v, u, rfl, r, c, h⟩
end
end Yk
namespace Yk
open PySem PySem.Spec PyProof.Rows L2
section
variable (P : Program) (w : World) (K : PySem.W.Frag) (mg : Str → Option Value) (base : Heap)
/-- a property -/
structure Pr (k : Nat) (C : Addr) (f : Str) (sp : Sp) : Prop where
  run : ∃ p g fd, Cls K C ∧ PropOf K C f p g ∧ FnOk P w K mg base CX0 k g fd ["self"] sp ∧ Binds K fd ["self"] []
end
section
variable {X : Cx} {k : Nat} {C : Addr} {f : Str} {sp : Sp} {e : Expr} {te : TE} {pos : Pos}
/-- e.f, f a property -/
def tPr (C : Addr) (sp : Sp) (te : TE) : TE := fun σ H Q => te σ H fun x H1 => ∃ a dx fs, x = .ref a ∧ H1 a = some (.ins C dx fs) ∧ sp [.ref a] H1 Q E0
theorem pe_pr (F : Pr X.prog X.w X.K X.mg X.base k C f sp) (hr : Room (k + 1) X.A) (he : PE X e te) (hab : attributeBase e f X.env (eval e X.env) = eval e X.env := by rfl) : PE X (.Attribute e f pos) (tPr C sp te) := by
  obtain ⟨p, g, fd, c, hp, G, hb⟩ := F.run
  exact pe_prop he c hp G hr hb .nil pass0 hab
theorem r_tPr {σ : L2.St} {H : Hp} {Q : VK} (h : te σ H fun x H1 => ∃ a dx fs, x = .ref a ∧ H1 a = some (.ins C dx fs) ∧ sp [.ref a] H1 Q E0) : tPr C sp te σ H Q := h
theorem r_prp {H : Hp} {a dx : Addr} {fs : List (Str × V)} {R : Prop} (h1 : H a = some (.ins C dx fs)) (h : R) : ∃ a' dx' fs', V.ref a = .ref a' ∧ H a' = some (.ins C dx' fs') ∧ R := ⟨a, dx, fs, rfl, h1, h⟩
end
end Yk

set_option maxHeartbeats 1000000
/-! super().m(..) as the first row of a method that closes over its class. -/
namespace Yk
open PySem PySem.Spec PyProof.Rows L2
theorem mem_cellsFrom : ∀ {names : List (Str × NameKind)} {n : Nat} {acc : List (Str × Addr)} {x : Str} {c : Addr}, (x, c) ∈ cellsFrom n names acc → (x, c) ∈ acc ∨ (x, NameKind.cell) ∈ names
  | [], _, _, _, _, h => .inl h
  | (nm, k) :: r, n, acc, x, c, h => by
    unfold cellsFrom at h
    split at h
    · rename_i hk
      have hk' : k = NameKind.cell := beq_iff_eq.mp hk
      rcases mem_cellsFrom h with h | h
      · rcases List.mem_cons.mp h with e | h
        · cases e
          exact .inr (by rw [hk']; exact List.mem_cons_self)
        · exact .inl h
      · exact .inr (List.mem_cons_of_mem _ h)
    · exact (mem_cellsFrom h).imp id (List.mem_cons_of_mem _)
theorem cellsFrom_app : ∀ (names : List (Str × NameKind)) (n : Nat) (acc : List (Str × Addr)), cellsFrom n names acc = cellsFrom n names [] ++ acc
  | [], _, _ => rfl
  | (nm, k) :: r, n, acc => by
    unfold cellsFrom
    split
    · rw [cellsFrom_app r (n + 1) ((nm, n) :: acc), cellsFrom_app r (n + 1) [(nm, n)], List.append_assoc]
      rfl
    · exact cellsFrom_app r n acc
/-- the state in a call whose env closes over cc -/
structure InD (cc : Addr) (s₀ : Shared) (L : Addr) (m : Str → Option Value) (cs : List (Str × Addr)) (cm : Str → Option Value) (s : Shared) : Prop where
  toInCall : InCall s₀ L m s
  cell : ∀ n c, cs.lookup n = some c → s.heap.IsCell c (cm n)
  apart : cs.Pairwise fun x y => x.2 ≠ y.2
  above : ∀ n c, (n, c) ∈ cs → L < c ∨ (n = "__class__" ∧ c = cc)
  low : cc < s₀.heap.objs.size
theorem InD.ne {cc : Addr} {s₀ s : Shared} {L : Addr} {m cm : Str → Option Value} {cs : List (Str × Addr)} (x : InD cc s₀ L m cs cm s) {n : Str} {c : Addr} (h : (n, c) ∈ cs) : c ≠ L := by
  rcases x.above n c h with h | ⟨_, rfl⟩
  · exact Nat.ne_of_gt h
  · exact Nat.ne_of_lt (Nat.lt_of_lt_of_le x.low x.toInCall.fresh)
section
variable {M : Model} {A : Around} {E : Value → Shared → Prop} {s₀ s : Shared} {m cm : Str → Option Value} {env : Env} {cc : Addr}
theorem stLD {n : Str} {v : Value} {Q : Unit → Shared → Prop} (x : InD cc s₀ env.locals m env.cells cm s) (hk : env.scope.kind = .function) (hl : env.kindOf n = some .local)
    (h : ∀ s', InD cc s₀ env.locals (fun y => if y = n then some v else m y) env.cells cm s' → Q () s') : wpAny M A (storeName env n v) Q E s := by
  refine wpAny_storeName_local hl x.toInCall.ns (fun h' hn' hs' => h _ ⟨⟨?_, hn', fun b o e => ?_, x.toInCall.fresh⟩, fun k c hc => ?_, x.apart, x.above, x.low⟩) (by rw [hk]; rfl)
  · obtain ⟨h₁, tk, rfl⟩ := x.toInCall.same
    exact ⟨h', _, rfl⟩
  · exact hs'.extBut b o (Nat.ne_of_lt (Nat.lt_of_lt_of_le (Heap.lt_size e) x.toInCall.fresh)) (x.toInCall.keep b o e)
  · exact (x.cell k c hc).sameBut hs' (x.ne (PySem.mem_of_lookup hc))
theorem stCD {n : Str} {c : Addr} {v : Value} {Q : Unit → Shared → Prop} (x : InD cc s₀ env.locals m env.cells cm s) (hk : env.scope.kind = .function) (hl : env.kindOf n = some .cell)
    (hc : env.cells.lookup n = some c) (hn : n ≠ "__class__")
    (h : ∀ s', InD cc s₀ env.locals m env.cells (fun y => if y = n then some v else cm y) s' → Q () s') : wpAny M A (storeName env n v) Q E s := by
  have hLc : env.locals < c := (x.above n c (PySem.mem_of_lookup hc)).resolve_right fun z => hn z.1
  refine wpAny_storeName_cell hk hl hc (x.cell n c hc) fun h' hc' hs' => h _ ⟨⟨?_, x.toInCall.ns.sameBut hs' (Nat.ne_of_lt hLc), fun b o e => ?_, x.toInCall.fresh⟩, fun k c' hk' => ?_, x.apart, x.above, x.low⟩
  · obtain ⟨h₁, tk, rfl⟩ := x.toInCall.same
    exact ⟨h', _, rfl⟩
  · exact hs'.extBut b o (Nat.ne_of_lt (Nat.lt_trans (Nat.lt_of_lt_of_le (Heap.lt_size e) x.toInCall.fresh) hLc)) (x.toInCall.keep b o e)
  · by_cases hkn : k = n
    · subst hkn
      rw [hc] at hk'; cases hk'
      simpa using hc'
    · rw [if_neg hkn]
      exact (x.cell k c' hk').sameBut hs' fun e => hkn (name_of_addr x.apart (PySem.mem_of_lookup hk') (e ▸ PySem.mem_of_lookup hc))
theorem bindParamsD (f : Str × Value → PUnit → Sem (ForInStep PUnit)) (hf : ∀ n v u, f (n, v) u = (do storeName env n v; pure (.yield ⟨⟩))) (hk : env.scope.kind = .function) :
    ∀ (binds : List (Str × Value)) (m cm : Str → Option Value) (s : Shared) (Q : PUnit → Shared → Prop), InD cc s₀ env.locals m env.cells cm s →
      (∀ x ∈ binds, env.kindOf x.1 = some .local ∨ (env.kindOf x.1 = some .cell ∧ (env.cells.lookup x.1).isSome = true)) → (∀ x ∈ binds, x.1 ≠ "__class__") →
      (∀ s', InD cc s₀ env.locals (bindL env.kindOf binds m) env.cells (bindC env.kindOf binds cm) s' → Q ⟨⟩ s') → wpAny M A (forIn binds ⟨⟩ f) Q E s
  | [], m, cm, s, Q, x, _, _, h => by rw [List.forIn_nil]; exact wpAny_pure (h s x)
  | (n, v) :: r, m, cm, s, Q, x, hkind, hcl, h => by
    rw [List.forIn_cons, hf]
    have hr : ∀ y ∈ r, env.kindOf y.1 = some .local ∨ (env.kindOf y.1 = some .cell ∧ (env.cells.lookup y.1).isSome = true) := fun y hy => hkind y (List.mem_cons_of_mem _ hy)
    have hr2 : ∀ y ∈ r, y.1 ≠ "__class__" := fun y hy => hcl y (List.mem_cons_of_mem _ hy)
    rcases hkind (n, v) List.mem_cons_self with hl | ⟨hl, hc⟩
    · refine wpAny_bind (wpAny_bind (stLD x hk hl fun s' x' => wpAny_pure (bindParamsD f hf hk r _ _ s' Q x' hr hr2 fun s'' x'' => h s'' ?_)))
      unfold bindL bindC; rw [if_pos hl, if_pos hl]; exact x''
    · obtain ⟨c, hc⟩ := Option.isSome_iff_exists.mp hc
      have hnl : ¬ env.kindOf n = some .local := by rw [hl]; decide
      refine wpAny_bind (wpAny_bind (stCD x hk hl hc (hcl (n, v) List.mem_cons_self) fun s' x' => wpAny_pure (bindParamsD f hf hk r _ _ s' Q x' hr hr2 fun s'' x'' => h s'' ?_)))
      unfold bindL bindC; rw [if_neg hnl, if_neg hnl]; exact x''
theorem newEnvD {scope : Scope} {globals : Addr} {binds : List (Str × Value)} {qual : Str} {func : Option Addr} {code : Value} {builtins : Addr} {vc : Option Value} {Q : Env → Shared → Prop}
    (hk : scope.kind = .function) (hcc : s.heap.IsCell cc vc) (hno : ∀ y ∈ scope.names, y.2 = .cell → y.1 ≠ "__class__")
    (hkind : ∀ x ∈ binds, scope.names.lookup x.1 = some .local ∨ (scope.names.lookup x.1 = some .cell ∧ ((cellsFrom (s.heap.objs.size + 1) scope.names [("__class__", cc)]).lookup x.1).isSome = true))
    (hbn : ∀ x ∈ binds, x.1 ≠ "__class__")
    (hQ : ∀ env, env = newEnv scope s.heap.objs.size globals (cellsFrom (s.heap.objs.size + 1) scope.names [("__class__", cc)]) qual func code none builtins →
      ∀ s', InD cc s env.locals (bindL env.kindOf binds fun _ => none) env.cells (bindC env.kindOf binds fun y => if y = "__class__" then vc else none) s' → Q env s') :
    wpAny M A (newFunctionEnv scope globals [("__class__", cc)] binds qual func code none builtins) Q E s := by
  simp only [newFunctionEnv, Option.isSome_none, Bool.false_eq_true, if_false]
  refine wpAny_bind (wpAny_alloc ?_)
  refine wpAny_bind (wpAny_layCells _ (fun name kind cells => by cases hkc : kind == NameKind.cell <;> simp [hkc]) _ _ _ _ ?_)
  have ok := cellsFrom_ok scope.names (s.heap.push { cls := .type "frame", data := .dict #[] }) (s.heap.objs.size + 1) [] ⟨fun _ _ hm => (nomatch hm), List.Pairwise.nil⟩ (by rw [Heap.size_push]; exact Nat.le_refl _)
  rw [Heap.size_push] at ok
  rw [show ({ s with heap := s.heap.push { cls := .type "frame", data := .dict #[] } } : Shared).heap.objs.size = s.heap.objs.size + 1 from Heap.size_push ..]
  have hlow : cc < s.heap.objs.size := by obtain ⟨o, ho, _⟩ := hcc; exact Heap.lt_size ho
  refine wpAny_bind (bindParamsD (cc := cc) (s₀ := s) (env := newEnv scope s.heap.objs.size globals (cellsFrom (s.heap.objs.size + 1) scope.names [("__class__", cc)]) qual func code none builtins)
    _ (fun _ _ _ => rfl) hk binds (fun _ => none) (fun y => if y = "__class__" then vc else none) _ _
    ⟨⟨⟨_, _, rfl⟩, (Heap.Ns.new s.heap (.type "frame")).keeps (pushCells_keeps _ _), fun b o e => pushCells_keeps _ _ b o (Heap.get?_push_of_some _ e), Nat.le_refl _⟩,
      fun n c hc => ?_, ?_, fun n c hm => ?_, hlow⟩
    hkind hbn fun s' x => wpAny_pure (hQ _ rfl s' x))
  · have hm : (n, c) ∈ cellsFrom (s.heap.objs.size + 1) scope.names [("__class__", cc)] := PySem.mem_of_lookup hc
    rw [cellsFrom_app] at hm
    rcases List.mem_append.mp hm with hm | hm
    · have hn : n ≠ "__class__" := (mem_cellsFrom hm).elim (fun z => nomatch z) fun z => hno _ z rfl
      rw [if_neg hn]
      exact (ok.empty n c hm).1
    · obtain ⟨rfl, rfl⟩ := Prod.mk.inj (List.mem_singleton.mp hm)
      rw [if_pos rfl]
      exact (hcc.keeps fun b o e => Heap.get?_push_of_some _ e).keeps (pushCells_keeps _ _)
  · show (cellsFrom (s.heap.objs.size + 1) scope.names [("__class__", cc)]).Pairwise _
    rw [cellsFrom_app]
    refine List.pairwise_append.mpr ⟨ok.apart, List.pairwise_singleton _ _, fun x hx y hy => ?_⟩
    rw [List.mem_singleton.mp hy]
    have := (ok.empty x.1 x.2 hx).2
    show x.2 ≠ cc
    exact Nat.ne_of_gt (Nat.lt_of_lt_of_le hlow (Nat.le_of_succ_le this))
  · have hm : (n, c) ∈ cellsFrom (s.heap.objs.size + 1) scope.names [("__class__", cc)] := hm
    rw [cellsFrom_app] at hm
    rcases List.mem_append.mp hm with hm | hm
    · exact .inl (ok.empty n c hm).2
    · obtain ⟨rfl, rfl⟩ := Prod.mk.inj (List.mem_singleton.mp hm)
      exact .inr ⟨rfl, rfl⟩
end
/-! ### the def -/
structure FunX (P : Program) (K : PySem.W.Frag) (x qual : Str) (params : Arguments) (body : List Stmt) (scope : Scope) (D f : Addr) : Prop where
  ex : ∃ (oc : Value) (od : Option Addr) (kV doc pm : Value) (an : Option Addr) (cda cc : Addr) (ct : Value) (osl : Array (Option Value)) (ccl : Value) (cdd : Option Addr) (vs : Array Value) (ccs : Array (Option Value)) (file : Str) (tf : Tok) (cl : Value) (cld : Option Addr) (csl : Array (Option Value)),
    K.lookup f = some ⟨oc, od, .func (PySem.W.fnX x qual params body scope [("__class__", cc)] .none kV doc pm an (.ref cda) ct), osl⟩ ∧ PySem.W.codeIn K (.ref cda) qual = true ∧
    K.lookup cda = some ⟨ccl, cdd, .fields vs, ccs⟩ ∧ vs[2]? = some (.str file tf) ∧ (P.main.file == file) = true ∧ K.lookup cc = some ⟨cl, cld, .cell (some (.ref D)), csl⟩
/-- what the class's method above is -/
structure SupD (P : Program) (K : PySem.W.Frag) (D : Addr) (m : Str) (f2 : Addr) : Prop where
  cls : ∃ cd, PySem.W.clsIn K D = some cd
  sub : PySem.W.mroIn K D (.ref D) = some true
  nx : PySem.W.ks_superIn K D D m = some (some (.ref f2))
  ty : PySem.W.typeIn K (.ref f2) = some (.type "function")
  fi : PySem.W.fnIn K f2 = true
  opq : PySem.W.nsIn K cStatics "thirdparty.any" = some none
  top : (P.main.scope.names.lookup ("super" : Str)).isSome = false
structure SupScope (N ps : List Str) (p0 : Str) (sc : Scope) : Prop where
  kind : sc.kind = .function
  co : sc.isCoroutine = false
  gen : sc.isGenerator = false
  nd : N.Nodup
  pre : N.take ps.length = ps
  par : ∀ x ∈ ps, sc.names.lookup x = some .local ∨ sc.names.lookup x = some .cell
  cl : sc.names.lookup ("__class__" : Str) = some .free
  su : sc.names.lookup ("super" : Str) = some .globalImplicit
  fr : ∀ y ∈ sc.names, y.2 = .free → y.1 = "__class__"
  nocl : ∀ y ∈ sc.names, y.2 = .cell → y.1 ≠ "__class__"
  pcl : ∀ x ∈ ps, x ≠ "__class__"
  hd : ps.head? = some p0
  slf : sc.names.lookup p0 = some .local
abbrev envS (qual : Str) (scope : Scope) (L f cda cc : Addr) : Env := PySem.W.envX qual scope L f (.ref cda) (cellsFrom (L + 1) scope.names [("__class__", cc)])
/-- the context of its body, at its entry; nothing is raised -/
def supX (P : Program) (w : World) (K : PySem.W.Frag) (mg : Str → Option Value) (base : Heap) (N : List Str) (qual : Str) (scope : Scope) (f cda cc : Addr) (A : Around) (outer : List Env) (s : Shared) (H : Hp) : Cx where
  prog := P
  w := w
  K := K
  mg := mg
  base := base
  A := A.deeper (envS qual scope s.heap.objs.size f cda cc)
  N := N
  s_0 := s
  H_0 := H
  env := envS qual scope s.heap.objs.size f cda cc
  outer := outer
  stack := envS qual scope s.heap.objs.size f cda cc :: outer
  ex := []
  calm := true
  fn := fun y => !(y == "__class__")
  pn := []
  xe := fun _ _ => False
section
variable {P : Program} {w : World} {K : PySem.W.Frag} {mg : Str → Option Value} {base : Heap} {N ps : List Str} {p0 qual : Str} {scope : Scope} {f cda cc : Addr} {A : Around} {outer : List Env} {s s1 : Shared} {H : Hp} {us : List Value} {vs : List V} {vc : Option Value}
theorem cell_hasS {sc : Scope} {n : Nat} {x : Str} {acc : List (Str × Addr)} (h : sc.names.lookup x = some .cell) : ∃ c, (cellsFrom n sc.names acc).lookup x = some c :=
  Option.isSome_iff_exists.mp (PySem.W.cellsFrom_some sc.names n acc (.inl h))
theorem class_has {sc : Scope} {n : Nat} (h : ∀ y ∈ sc.names, y.2 = .cell → y.1 ≠ "__class__") : (cellsFrom n sc.names [("__class__", cc)]).lookup ("__class__" : Str) = some cc := by
  rw [cellsFrom_app, List.lookup_append]
  have : (cellsFrom n sc.names []).lookup ("__class__" : Str) = none := by
    cases e : (cellsFrom n sc.names []).lookup ("__class__" : Str) with
    | none => rfl
    | some c => exact absurd rfl ((mem_cellsFrom (PySem.mem_of_lookup e)).elim (fun z => nomatch z) fun z => h _ z rfl)
  rw [this]
  rfl
theorem inv_sup (S : SupScope N ps p0 scope) (hd : A.handled = none) (e0 : Env0 P w K mg base A outer s H) (hl : vs.length = ps.length) (r : Vals vs us) (hc : H cc = none)
    (x : InD cc s s.heap.objs.size (bindL (envS qual scope s.heap.objs.size f cda cc).kindOf (ps.zip us) fun _ => none) (cellsFrom (s.heap.objs.size + 1) scope.names [("__class__", cc)]) (bindC (envS qual scope s.heap.objs.size f cda cc).kindOf (ps.zip us) fun y => if y = "__class__" then vc else none) s1) :
    Inv (supX P w K mg base N qual scope f cda cc A outer s H) [] (L2.start N vs) H s1 := by
  have hpl : ps.length ≤ N.length := by have := congrArg List.length S.pre; rw [List.length_take] at this; omega
  obtain ⟨h1, tk, rfl, hk⟩ := x.toInCall.done
  have noA : ∀ b : Addr, b ∉ (supX P w K mg base N qual scope f cda cc A outer s H).ex := fun b z => absurd (show b ∈ ([] : List Addr) from z) (by simp)
  refine ⟨⟨e0.mod, S.kind, rfl, rfl, Nat.le_refl _, fun y z c h1 h2 => ?_, fun y hy => ?_, fun y c hy h => ?_, fun _ => hd, Around.frames_deeper e0.frames, .inr ⟨rfl, rfl⟩, fun b z => absurd z (noA b), e0.bs, e0.bsz, fun b _ _ => noA b, fun b z => absurd z (noA b), e0.funs, e0.frf⟩,
    rfl, e0.bare, Un.kept hk, ⟨_, x.toInCall.ns, fun i y v h1 h2 h3 => ?_⟩, fun y c h => ⟨_, x.cell y c h⟩, e0.hok.fresh (Nat.le_refl _), fun y c h => ?_, fun p hp => absurd (show p ∈ ([] : List (Addr × Obj)) from hp) (by simp), e0.hok.kept hk, ?_⟩
  · exact name_of_addr x.apart (PySem.mem_of_lookup h1) (PySem.mem_of_lookup h2)
  · have hy : scope.names.lookup y = some .cell ∨ scope.names.lookup y = some .free := hy
    rcases hy with hy | hy
    · exact cell_hasS hy
    · have := S.fr _ (PySem.mem_of_lookup hy) rfl
      dsimp only at this
      subst this
      exact ⟨cc, class_has S.nocl⟩
  · have hy : (!(y == ("__class__" : Str))) = true := hy
    have hy2 : y ≠ "__class__" := fun z => by rw [z] at hy; simp at hy
    exact Nat.le_of_lt ((x.above y c (PySem.mem_of_lookup h)).resolve_right fun z => hy2 z.1)
  · have hi : i < vs.length := by
      unfold L2.start at h2
      by_cases hi : i < vs.length
      · exact hi
      · rw [List.getElem?_append_right (by simpa using hi)] at h2
        rw [List.getElem?_replicate] at h2
        split at h2 <;> cases h2
    have ha : vs[i]? = some v := by
      unfold L2.start at h2
      rw [List.getElem?_append_left (by simpa using hi), List.getElem?_map] at h2
      cases e : vs[i]? with
      | none => rw [e] at h2; cases h2
      | some a => rw [e] at h2; cases h2; rfl
    obtain ⟨u, hu, rv⟩ := r.get ha
    have hp : ps[i]? = some y := by
      rw [← S.pre, List.getElem?_take_of_lt (by omega)]; exact h1
    have ndP : ps.Nodup := by rw [← S.pre]; exact S.nd.sublist (List.take_sublist _ _)
    refine ⟨u, rv, ?_⟩
    rcases S.par y (List.mem_of_getElem? hp) with k | k
    · exact .inl ⟨k, bindL_get ndP hp hu k⟩
    · obtain ⟨c, e⟩ := cell_hasS (n := s.heap.objs.size + 1) (acc := [("__class__", cc)]) k
      refine .inr ⟨.inl k, c, e, ?_⟩
      have q := x.cell y c e
      rw [bindC_get ndP hp hu (by show scope.names.lookup y ≠ _; rw [k]; decide)] at q
      exact q
  · rcases x.above y c (PySem.mem_of_lookup h) with h | ⟨_, rfl⟩
    · exact e0.hok.fresh (Nat.le_of_lt h)
    · exact hc
  · unfold L2.start
    show _ = N.length
    rw [List.length_append, List.length_map, List.length_replicate]
    omega
end
/-- an untracked object is laid -/
theorem Inv.kept1 {X : Cx} {pins : List (Addr × Obj)} {σ : L2.St} {H : Hp} {s : Shared} {h' : Heap} (I : Inv X pins σ H s) (k : ∀ b o, s.heap.get? b = some o → h'.get? b = some o) (t' : Nat) : Inv X pins σ H { s with heap := h', toks := t' } :=
  I.un (Un.kept k) (I.hok.kept k)
/-- THE RULE -/
theorem fnR_sup {P : Program} {w : World} {K : PySem.W.Frag} {mg : Str → Option Value} {base : Heap} {N ps : List Str} {x qual m : Str} {params : Arguments} {body rest : List Stmt} {scope : Scope} {D f f2 : Addr} {k : Nat} {sp sp2 : Sp} {ar : Arg} {p0 p1 apos pos epos : Pos} {e : Expr} {es : List Expr}
    (F : FunX P K x qual params body scope D f) (hbd : body = .Expr (.Call (.Attribute (.Call (.Name "super" p0) [] [] p1) m apos) (e :: es) [] pos) epos :: rest) (Sd : SupD P K D m f2) (F2 : FnR P w K mg base CX0 k f2 sp2) (hsup : mg "super" = none)
    (hp : (params.posonlyargs ++ params.args).head? = some ar) (S : SupScope N ps ar.arg scope) (hm : (m == ("__class__" : Str)) = false)
    (hb : ∀ (kV doc pm : Value) (an : Option Addr) (cdv ct : Value) (cc : Addr) (us : List Value), us.length = ps.length → bindArgs (PySem.W.fnX x qual params body scope [("__class__", cc)] .none kV doc pm an cdv ct) ⟨us, []⟩ = pure (ps.zip us))
    (len : ∀ vs H Q E, sp vs H Q E → vs.length = ps.length)
    (hi : ∀ env : Env, env.scope = scope → interactive env = false) (hs : ∀ env : Env, env.scope = scope → swapsWith (.Call (.Attribute (.Call (.Name "super" p0) [] [] p1) m apos) (e :: es) [] pos) none epos.line env = pure false)
    (hst : ∀ env : Env, starEach (e :: es) env = (false, eval e env) :: starEach es env) (hpl : ∀ env : Env, (backTo pos (starEach es env)).any (·.1) = false)
    {pl : Env → Sem Bool} (he : ∀ env : Env, env.scope = scope → eval (.Call (.Attribute (.Call (.Name "super" p0) [] [] p1) m apos) (e :: es) [] pos) env = (do
      let ov ← attributeBase (.Call (.Name "super" p0) [] [] p1) m env (eval (.Call (.Name "super" p0) [] [] p1) env)
      standAt apos.atName
      let (f, first) ← holding [ov] (getMethod ov m (pl env))
      callWith pos f first (backTo pos (starEach (e :: es) env)) []))
    (hbody : ∀ (cda cc : Addr) (A : Around) (outer : List Env) (s : Shared) (H : Hp) (vs : List V) (Q : VK) (E : XK), Room k (A.deeper (envS qual scope s.heap.objs.size f cda cc)) → sp vs H Q E →
      ∃ a dx fs tA t, vs[0]? = some (V.ref a) ∧ H a = some (.ins D dx fs) ∧ PA (supX P w K mg base N qual scope f cda cc A outer s H) (e :: es) tA ∧ PSs (supX P w K mg base N qual scope f cda cc A outer s H) rest t ∧
        tA (L2.start N vs) H fun xs H1 => sp2 (.ref a :: xs) H1 (fun _ H2 => t ⟨fun _ H' => Q .non H', Q, fun _ _ => False, fun _ _ => False⟩ (L2.start N vs) H2) E0) :
    FnR P w K mg base CX0 (k + 1) f sp := by
  intro A outer s H us vs Q E hr e0 r hsp
  obtain ⟨oc, od, kV, doc, pm, an, cda, cc, ct, osl, ccl, cdd, vs2, ccs, file, tf, cl, cld, csl, lk, hcd, lkc, hv2, hfile, lkcc⟩ := F.ex
  have hl := len _ _ _ _ hsp
  have KX : K.In s.heap := e0.mod.kin.keeps fun b o e => (e0.bs b o e).1
  have lim : s.heap.NoLimit := e0.mod.nolimit.keeps fun b o e => (e0.bs b o e).1
  have hcell : s.heap.IsCell cc (some (.ref D)) := ⟨_, KX _ _ lkcc, rfl⟩
  have hHcc : H cc = none := (e0.bs cc _ (e0.mod.kin _ _ lkcc)).2
  have hkind : ∀ y ∈ ps.zip us, scope.names.lookup y.1 = some .local ∨ (scope.names.lookup y.1 = some .cell ∧ ((cellsFrom (s.heap.objs.size + 1) scope.names [("__class__", cc)]).lookup y.1).isSome = true) := fun ⟨n, v⟩ hy => by
    rcases S.par n (List.of_mem_zip hy).1 with q | q
    · exact .inl q
    · exact .inr ⟨q, PySem.W.cellsFrom_some _ _ _ (.inl q)⟩
  refine codeAny_call_function hr.depth (KX _ _ lk) rfl S.co S.gen rfl (PySem.W.codeRec_of KX hcd) ?_
  rw [hb kV doc pm an _ ct cc us (by rw [← r.length]; exact hl)]
  refine wpAny_pure (newEnvD S.kind hcell S.nocl hkind (fun y hy => S.pcl _ (List.of_mem_zip hy).1) fun env hee s1 x => ?_)
  subst hee
  refine ⟨lim.keeps x.toInCall.keep, PySem.ks_codeAny_funcAt ?_⟩
  obtain ⟨a, dx, fs, tA, t, hv0, ha, hA, ht, hq⟩ := hbody cda cc A outer s H vs Q E (hr.deeper _) hsp
  have I : Inv (supX P w K mg base N qual scope f cda cc A outer s H) [] (L2.start N vs) H s1 := inv_sup S hr.hd e0 hl r hHcc x
  subst hbd
  let X := supX P w K mg base N qual scope f cda cc A outer s H
  have I : Inv X [] (L2.start N vs) H s1 := I
  refine PySem.ks_wpAt_execs_cons (PySem.ks_wpAt_Expr_any (PySem.ks_wpAt_MethodCall (pl := pl _) ?_ (he _ rfl)) (hi _ rfl) (hs _ rfl))
  have KI : K.In s1.heap := I.kIn
  obtain ⟨cdD, hcdD⟩ := Sd.cls
  obtain ⟨oD, hD1, hD2⟩ : ∃ oD, s1.heap.get? D = some oD ∧ oD.data = .cls cdD := by
    have h := hcdD
    unfold PySem.W.clsIn at h
    split at h
    · rename_i c d cd' sl ho
      cases h
      exact ⟨_, KI _ _ ho, rfl⟩
    · cases h
  obtain ⟨mA, O, _, _, _, _⟩ := ins_get I.hok ha
  obtain ⟨od', J, _⟩ := O.look
  have hxD : a ≠ D := fun z => by
    have h1 := J.at_
    rw [z, hD1] at h1
    have h2 := J.no
    rw [← Option.some.inj h1] at h2
    unfold PySem.W.notCls at h2
    rw [hD2] at h2
    exact Bool.noConfusion h2
  have hself : (L2.start N vs)[0]? = some (some (V.ref a)) := by
    unfold L2.start
    have h0 : 0 < vs.length := (List.getElem?_eq_some_iff.mp hv0).1
    rw [List.getElem?_append_left (by simpa using h0), List.getElem?_map, hv0]
    rfl
  have hN0 : N[0]? = some ar.arg := by
    have h := S.hd
    rw [← S.pre, List.head?_eq_getElem?] at h
    rw [List.getElem?_take] at h
    split at h
    · exact h
    · cases h
  obtain ⟨mm, hns, hloc⟩ := I.loc
  obtain ⟨u0, ru0, hu0⟩ := hloc 0 ar.arg (V.ref a) hN0 hself (.inl S.slf)
  obtain rfl : u0 = Value.ref a := ru0
  have hma : mm ar.arg = some (.ref a) := by
    rcases hu0 with ⟨_, h⟩ | ⟨h, _⟩
    · exact h
    · have hk : scope.names.lookup ar.arg = some .cell ∨ scope.names.lookup ar.arg = some .free := h
      rw [S.slf] at hk
      rcases hk with hk | hk <;> cases hk
  refine PySem.ks_wpAt_super_base (f := f) (cc := cda) (vs := vs2) (file := file) (tf := tf) S.su S.cl hm rfl (KI _ _ lk) rfl hp rfl (KI _ _ lkc) rfl hv2 hfile Sd.top ?_
  obtain ⟨mb, hb1, hb2⟩ := I.mod.blt
  refine PySem.W.ks_loadName_global S.kind S.su (Calls.loadGlobal_builtin (mg := mg) (mb := mb) (e0.mod.glob.keeps I.bk) hsup (hb1.keeps I.bk) ((hb2 _ (by decide +kernel)).trans (show bootBuiltins "super" = some (.type "super") by first | boot_by_name | rfl | kernel_rfl)) ⟨rfl, ?_⟩)
  refine wpAny_loadName_free S.kind S.cl (class_has S.nocl) ⟨_, KI _ _ lkcc, rfl⟩ ?_
  refine wpAny_loadName_local S.kind S.slf hns hma ?_
  refine PySem.ks_wpAny_isType_cls hD1 hD2 ⟨rfl, ?_⟩
  obtain ⟨hh, gg, dd, tt, oss⟩ := s1
  refine PySem.ks_wpAny_call_super hD1 hD2 J.at_ J.cls (fun c z => ?_) (PySem.W.looks_mroIn KI Sd.sub) (fun h2 hso kp2 => ?_)
  · have h2 := J.no
    unfold PySem.W.notCls at h2
    rw [z] at h2
    exact Bool.noConfusion h2
  have I2 := Inv.kept1 I kp2 tt
  have KI2 : K.In h2 := I2.kIn
  obtain ⟨of, hof, hofc⟩ : ∃ of, h2.get? f2 = some of ∧ of.cls = .type "function" := by
    have ht' : (K.lookup f2).map (·.cls) = some (.type "function") := Sd.ty
    cases z : K.lookup f2 with
    | none => rw [z] at ht'; cases ht'
    | some of => rw [z] at ht'; exact ⟨of, KI2 _ _ z, Option.some.inj ht'⟩
  have hnx := Sd.nx
  unfold PySem.W.ks_superIn at hnx
  rw [hcdD] at hnx
  refine PySem.ks_wpAny_getMethod_super hso (PySem.W.looks_opaque KI2 Sd.opq) (l₀ := cdD.mro) (fun A Q E s k q => wpAny_bind ((PySem.W.looks_clsIn KI2 hcdD) A _ E s k (wpAny_pure q))) rfl KI2 hnx hof hofc hxD hm ?_
  have hq0 : (h2.push (PySem.W.methodObj (.ref f2) (.ref a))).get? h2.objs.size = some (PySem.W.methodObj (.ref f2) (.ref a)) := Heap.get?_push_at rfl rfl
  have hHq : H h2.objs.size = none := I2.hok.fresh (Nat.le_refl _)
  have I3 := Inv.kept1 (h' := h2.push (PySem.W.methodObj (.ref f2) (.ref a))) I2 (fun b o e => Heap.get?_push_of_some _ e) (tt + 1)
  have hqfs : h2.objs.size ∉ X.fs := I2.nofs (Nat.le_refl _)
  have hqL : h2.objs.size ≠ X.env.locals := Nat.ne_of_gt I2.lt
  have I4 : Inv X [(h2.objs.size, PySem.W.methodObj (.ref f2) (.ref a))] (L2.start N vs) H _ := I3.pins_of fun p hp => by
    rw [List.mem_singleton.mp hp]
    exact ⟨hq0, hHq, hqL, hqfs, fun v z => by cases z⟩
  show wpAny _ _ (callWith pos (.ref h2.objs.size) [] (backTo pos (starEach (e :: es) _)) []) _ _ _
  have hrun := hA.run pos _ _ _ _ _ I4 hq
  rw [hst] at hrun ⊢
  refine PySem.W.callWith_of (P := PySem.W.MethP K h2.objs.size f2 (.ref a)) (by show ((false || (backTo pos (starEach es _)).any (·.1)) || false) = false; rw [hpl]; rfl) (PySem.W.keeps_M Sd.fi) (PySem.Calls.evalArgs_plain ?_)
  refine wpAny_mono hrun (fun us2 s5 ⟨xs, H5, I5, r5, q5⟩ => ?_) fun _ _ z => z.elim
  have hq5 := (I5.pin (h2.objs.size, PySem.W.methodObj (.ref f2) (.ref a)) (List.mem_append_right _ List.mem_cons_self)).1
  refine ⟨⟨hq5, I5.kIn⟩, ?_⟩
  refine wpAny_call (PySem.W.method_call hq5 ?_)
  refine codeAny_mono (run_fnR (X := X) (us := .ref a :: us2) (vs := .ref a :: xs) F2 (hr.deeper _) pass0 I5 (.cons rfl r5) q5) fun r6 s6 h6 => ?_
  cases r6 with
  | error e6 => exact (show False from h6).elim
  | ok fl =>
    cases fl with
    | next => exact h6.elim
    | brk => exact h6.elim
    | cont => exact h6.elim
    | ret u6 =>
      obtain ⟨v6, H6, I6, _, q6⟩ := h6
      refine PySem.wpAt_of_wpAny (wpAny_mono (ht.run _ _ _ _ _ I6 q6) (fun fl s' h7 => ?_) fun _ _ z => z.elim)
      have fin : ∀ {pins : List (Addr × Obj)} {σ' : L2.St} {H' : Hp} {v : V} {u : Value}, Inv X pins σ' H' s' → L2.RelV v u → Q v H' → CE outer P w H s Q u s' :=
        fun {pins σ' H' v u} J rv q => ⟨v, H', J.os, J.bare, J.base, J.hok, rv, q⟩
      cases fl with
      | ret u =>
        obtain ⟨v, σ', H', J, rv, q⟩ := h7
        exact fin J rv q
      | next =>
        obtain ⟨σ', H', J, q⟩ := h7
        exact fin (v := V.non) (u := Value.none) J rfl q
      | brk =>
        obtain ⟨_, _, _, q⟩ := h7
        exact False.elim q
      | cont =>
        obtain ⟨_, _, _, q⟩ := h7
        exact False.elim q
end Yk

set_option maxHeartbeats 1000000
/-! A hook for programs with methods that begin by super().m(..). -/
namespace Hk
open PySem PySem.Spec PyProof.Rows L2 He
structure SupP where
  path : PySem.W.Frag → Addr
  cls : PySem.W.Frag → Addr
  above : PySem.W.Frag → Addr
  m : Str
  name : Str
  qual : Str
  params : Arguments
  body : List Stmt
  scope : Scope
def SupP.val (d : SupP) : FnW := some (d.name, d.qual, d.params, .stmts d.body, d.scope, mainGlobals, [("__class__", 0)], builtinsNs)
def seenX (K : PySem.W.Frag) (a : Addr) : FnW := match K.lookup a with
  | some o => (match o.data with
    | .func u => some (u.name, u.qualname, u.params, u.body, u.scope, u.globals, u.closure.map fun p => (p.1, 0), u.builtins)
    | _ => none)
  | none => none
def fileB (K : PySem.W.Frag) (file : Str) (v : Value) : Bool := match v with
  | .ref c => (match K.lookup c with
    | some oc => (match oc.data with
      | .fields vs => (match vs[2]? with
        | some (Value.str fl _) => file == fl
        | _ => false)
      | _ => false)
    | none => false)
  | _ => false
def cellB (K : PySem.W.Frag) (D : Addr) (l : List (Str × Addr)) : Bool := match l with
  | [(_, c)] => (match K.lookup c with
    | some oc => (match oc.data with
      | .cell (some (.ref E)) => D == E
      | _ => false)
    | none => false)
  | _ => false
def noneB (v : Value) : Bool := match v with
  | .none => true
  | _ => false
def goodX (file : Str) (K : PySem.W.Frag) (d : SupP) : Bool := (match K.lookup (d.path K) with
  | some o => (match o.data with
    | .func u => PySem.W.codeIn K u.code d.qual && (noneB u.defaults && (fileB K file u.code && cellB K (d.cls K) u.closure))
    | _ => false)
  | none => false) && ((PySem.W.clsIn K (d.cls K)).isSome && (decide (PySem.W.mroIn K (d.cls K) (.ref (d.cls K)) = some true) && (eqO (PySem.W.ks_superIn K (d.cls K) (d.cls K) d.m) (some (some (.ref (d.above K)))) &&
    (PySem.W.isFn K (.ref (d.above K)) && (PySem.W.fnIn K (d.above K) && eqO (PySem.W.nsIn K cStatics "thirdparty.any") (some none))))))
theorem file_ok {K : PySem.W.Frag} {file : Str} {v : Value} (h : fileB K file v = true) : ∃ c ccl cdd vs ccs fl tf, v = .ref c ∧ K.lookup c = some ⟨ccl, cdd, .fields vs, ccs⟩ ∧ vs[2]? = some (.str fl tf) ∧ (file == fl) = true := by
  unfold fileB at h
  cases v with
  | ref c =>
    dsimp only at h
    cases q : K.lookup c with
    | none => simp only [q] at h; cases h
    | some oc =>
      simp only [q] at h
      obtain ⟨c1, c2, dt, c3⟩ := oc
      cases dt with
      | fields vs =>
        dsimp only at h
        cases q2 : vs[2]? with
        | none => rw [q2] at h; cases h
        | some v =>
          rw [q2] at h
          cases v with
          | str fl tf => exact ⟨c, c1, c2, vs, c3, fl, tf, rfl, q, q2, h⟩
          | _ => cases h
      | _ => dsimp only at h; cases h
  | _ => cases h
theorem cell_ok {K : PySem.W.Frag} {D : Addr} {l : List (Str × Addr)} (h : cellB K D l = true) : ∃ n c cl cld csl, l = [(n, c)] ∧ K.lookup c = some ⟨cl, cld, .cell (some (.ref D)), csl⟩ := by
  unfold cellB at h
  match l, h with
  | [(n, c)], h =>
    dsimp only at h
    cases q : K.lookup c with
    | none => simp only [q] at h; cases h
    | some oc =>
      simp only [q] at h
      obtain ⟨c1, c2, dt, c3⟩ := oc
      cases dt with
      | cell v =>
        dsimp only at h
        cases v with
        | none => cases h
        | some v =>
          cases v with
          | ref E =>
            dsimp only at h
            rw [beq_iff_eq.mp h]
            exact ⟨n, c, c1, c2, c3, rfl, q⟩
          | _ => cases h
      | _ => dsimp only at h; cases h
theorem sup_of {P : Program} {file : Str} {K : PySem.W.Frag} {d : SupP} (hf : P.main.file = file) (ht : (P.main.scope.names.lookup ("super" : Str)).isSome = false) (e : seenX K (d.path K) = d.val) (c : goodX file K d = true) :
    Yk.FunX P K d.name d.qual d.params d.body d.scope (d.cls K) (d.path K) ∧ Yk.SupD P K (d.cls K) d.m (d.above K) := by
  unfold goodX at c
  obtain ⟨c0, c⟩ := Bool.and_eq_true_iff.mp c
  obtain ⟨c1, c⟩ := Bool.and_eq_true_iff.mp c
  obtain ⟨c2, c⟩ := Bool.and_eq_true_iff.mp c
  obtain ⟨c3, c⟩ := Bool.and_eq_true_iff.mp c
  obtain ⟨c4, c⟩ := Bool.and_eq_true_iff.mp c
  obtain ⟨c5, c6⟩ := Bool.and_eq_true_iff.mp c
  refine ⟨?_, ⟨Option.isSome_iff_exists.mp c1, of_decide_eq_true c2, eqO_ok c3, beq_iff_eq.mp c4, c5, eqO_ok c6, ht⟩⟩
  unfold seenX at e
  generalize d.path K = a at *
  cases q : K.lookup a with
  | none => simp only [q] at c0; cases c0
  | some o =>
    simp only [q] at c0 e
    obtain ⟨oc, od, dt, osl⟩ := o
    cases dt with
    | func fd =>
      dsimp only at c0 e
      obtain ⟨k1, k⟩ := Bool.and_eq_true_iff.mp c0
      obtain ⟨k2, k⟩ := Bool.and_eq_true_iff.mp k
      obtain ⟨k3, k4⟩ := Bool.and_eq_true_iff.mp k
      obtain ⟨m1, m2, m3, m4, m5, m6, m7, m8, m9, m10, m11, m12, m13, m14, m15⟩ := fd
      unfold SupP.val at e
      dsimp only at e k1 k2 k3 k4
      injection e with e
      injection e with e1 e; injection e with e2 e; injection e with e3 e; injection e with e4 e; injection e with e5 e; injection e with e6 e; injection e with e7 e8
      obtain ⟨n, cc, cl, cld, csl, rfl, lcc⟩ := cell_ok k4
      obtain ⟨cda, ccl, cdd, vs, ccs, fl, tf, rfl, lcd, hv, hfl⟩ := file_ok k3
      have en : n = "__class__" := by
        have := (List.cons.inj e7).1
        exact (Prod.mk.inj this).1
      subst e1 e2 e3 e4 e5 e6 e8 en
      have e9 : m8 = .none := by
        cases m8 with
        | none => rfl
        | _ => cases k2
      subst e9
      exact ⟨oc, od, m9, m10, m11, m12, cda, cc, m14, osl, ccl, cdd, vs, ccs, fl, tf, cl, cld, csl, q, k1, lcd, hv, by rw [hf]; exact hfl, lcc⟩
    | _ => dsimp only at c0; cases c0
def obGS (as : List Addr) (fa : List Fa) (fn : List DefP) (ex : PySem.W.Frag → Bool) (sf : List SupP) (file : Str) (g : Addr → Option Obj) : Al × Al := (look as fa fn ex (frG g as), (sf.all fun d => goodX file (frG g as) d, sf.map fun d => seenX (frG g as) (d.path (frG g as))))
def dueS (fn : List DefP) (sf : List SupP) : Al × Al := (due fn, (true, sf.map SupP.val))
structure SaysS (fa : List Fa) (fn : List DefP) (ex : PySem.W.Frag → Bool) (sf : List SupP) (file : Str) (K : PySem.W.Frag) : Prop where
  s : Says fa fn ex K
  sup : ∀ (P : Program), P.main.file = file → (P.main.scope.names.lookup ("super" : Str)).isSome = false → ∀ (i : Nat) (d : SupP), sf[i]? = some d → Yk.FunX P K d.name d.qual d.params d.body d.scope (d.cls K) (d.path K) ∧ Yk.SupD P K (d.cls K) d.m (d.above K)
theorem saysS_of {as : List Addr} {fa : List Fa} {fn : List DefP} {ex : PySem.W.Frag → Bool} {sf : List SupP} {file : Str} {g : Addr → Option Obj} (e : obGS as fa fn ex sf file g = dueS fn sf) : SaysS fa fn ex sf file (frG g as) := by
  have e1 : look as fa fn ex (frG g as) = due fn := congrArg (·.1) e
  have e2 : (sf.all fun d => goodX file (frG g as) d) = true := congrArg (·.2.1) e
  have e3 : (sf.map fun d => seenX (frG g as) (d.path (frG g as))) = sf.map SupP.val := congrArg (·.2.2) e
  refine ⟨says_of e1, fun P hf ht i d hd => sup_of hf ht ?_ (List.all_eq_true.mp e2 d (List.mem_of_getElem? hd))⟩
  have e4 := congrArg (fun l : List FnW => l[i]?) e3
  rw [List.getElem?_map, List.getElem?_map, hd] at e4
  exact Option.some.inj e4
def hookS (as : List Addr) (fa : List Fa) (fn : List DefP) (ex : PySem.W.Frag → Bool) (sf : List SupP) (file : Str) : PySem.W.Hook where
  α := Al × Al
  obs := fun s => obGS as fa fn ex sf file s.heap.get?
  val := fun _ => dueS fn sf
  says := fun _ h => ∃ K : PySem.W.Frag, K.In h ∧ SaysS fa fn ex sf file K
  of := fun _ _ e => ⟨_, frG_in, saysS_of e⟩
  keeps := fun _ _ _ ⟨K, hK, c⟩ k => ⟨K, PySem.W.Frag.In.keeps hK k, c⟩
theorem obGS_eq {as : List Addr} {fa : List Fa} {fn : List DefP} {ex : PySem.W.Frag → Bool} {sf : List SupP} {file : Str} {g : Addr → Option Obj} {s : Shared} (h : ∀ a, g a = s.heap.get? a) : obGS as fa fn ex sf file g = (hookS as fa fn ex sf file).obs s := by
  obtain rfl : g = s.heap.get? := funext h
  rfl
end Hk
namespace Hk
open PySem PySem.W PySem.Spec PyProof.Rows L2 He HandSHeadRun
theorem joinS {r : OpenRow} {q : Program} {M : Nat} {loose : List Str} {w : World} {as : List Addr} {fa : List Fa} {fn : List DefP} {ex : Frag → Bool} {sf : List SupP} {file : Str}
    (a : At r M w (fun x => obGS as fa fn ex sf file (getT x.2)) (dueS fn sf)) (b : At r M w (fun x => staticsOk (importedModules r.prog.main.body) x.1.heap x.2.abs.heap && laidKept x.1.heap x.2.abs.heap) true)
    (b2 : At r M w (fun x => namesBound r.prog x.2.abs.heap && gensDone x.2.abs) true)
    (c : At r M w (fun x => seenQ q loose (importedModules r.prog.main.body) (fun s => xlAt q [] s && recOk r.toRowW.records s) x.2.abs) (openGood q loose)) : RunEqI r q (hookS as fa fn ex sf file) (fun s => obGS as fa fn ex sf file (getT s)) M loose w := by
  obtain ⟨x, hx, e1⟩ := Option.map_eq_some_iff.mp a
  obtain ⟨x2, hx2, e2⟩ := Option.map_eq_some_iff.mp b
  obtain ⟨x3, hx3, e3⟩ := Option.map_eq_some_iff.mp b2
  obtain ⟨x4, hx4, e4⟩ := Option.map_eq_some_iff.mp c
  rw [hx] at hx2 hx3 hx4
  cases hx2
  cases hx3
  cases hx4
  obtain ⟨p1, p2⟩ := Bool.and_eq_true_iff.mp e2
  obtain ⟨p3, p4⟩ := Bool.and_eq_true_iff.mp e3
  refine Option.map_eq_some_iff.mpr ⟨x, hx, ?_⟩
  have l : looksF r.prog x.1.heap x.2.abs = true := by
    unfold looksF
    rw [p1, p2, p3, p4]
    rfl
  rw [l, e4]
  exact congrArg (fun z => (true, openGood q loose, z)) e1
end Hk
namespace Hk
open PySem PySem.Spec PyProof.Rows L2 He
/-- objects of the class x: their type, isinstance of it -/
def tyB (K : PySem.W.Frag) (x : Str) : Bool := eqO (PySem.W.findIn K (.ref (ga K x)) "__class__") (some (some (.builtin "object.__class__"))) && (eqO (PySem.W.specialIn K (.builtin "object.__class__") "__get__") (some (some (.builtin "getset_descriptor.__get__"))) &&
  (decide (PySem.W.takesIn K (.builtin "object.__class__") = some true) && (decide (PySem.W.mroIn K (ga K x) (.type "object") = some true) && decide (PySem.W.kitOne K (.ref (ga K x)) (.ref (ga K x)) = some true))))
theorem tyB_ok {K : PySem.W.Frag} {x : Str} (h : tyB K x = true) (c : Cls K (ga K x)) : Yk.Ty1 K (ga K x) ∧ PySem.W.kitOne K (.ref (ga K x)) (.ref (ga K x)) = some true := by
  obtain ⟨h1, h⟩ := Bool.and_eq_true_iff.mp h
  obtain ⟨h2, h⟩ := Bool.and_eq_true_iff.mp h
  obtain ⟨h3, h⟩ := Bool.and_eq_true_iff.mp h
  obtain ⟨h4, h5⟩ := Bool.and_eq_true_iff.mp h
  exact ⟨⟨fun H a dx fs e => TyX.base (TyOf.ins e c (eqO_ok h1) (eqO_ok h2) (of_decide_eq_true h3) (of_decide_eq_true h4))⟩, of_decide_eq_true h5⟩
theorem kbn_of {K : PySem.W.Frag} {x qual : Str} {params : Arguments} {body : List Stmt} {scope : Scope} {kws : List (Str × V)} {f : Addr} {fd : FuncData} {ps ks : List Str} {n : Nat} (F : FunD K x qual params body scope [] kws f fd)
    (h : ∀ (kV doc pm : Value) (an : Option Addr) (cdv ct : Value) (us ws : List Value), us.length = n → ws.length = ks.length → bindArgs (PySem.W.fnOf x qual params body scope .none kV doc pm an cdv ct) ⟨us, ks.zip ws⟩ = pure (ps.zip (us ++ ws))) : KBn K fd ps n ks (fun us ws => us ++ ws) (fun vs zs => vs ++ zs) := by
  obtain ⟨oc, od, dV, kV, doc, pm, an, cdv, ct, osl, rfl, lk, hcd, hD, _⟩ := F.ex
  rcases hD with ⟨_, rfl⟩ | ⟨e, _⟩
  · exact ⟨fun s us ws _ h1 h2 => BindsTo.of_eq (h kV doc pm an cdv ct us ws h1 h2), fun r1 r2 => r1.append r2⟩
  · exact absurd rfl e
end Hk

set_option maxHeartbeats 0
namespace YkHead
open PySem PySem.Spec PyProof.Rows L2 Yk
def dD (x : Str) (i : Nat) : Hk.DefP := ⟨fun K => He.ga K x, x, x, defArgs (top i), defBody (top i), defScope (top i), [], []⟩
def fn0 : List Hk.DefP := [dD "is_number" 3, dD "is_number_within" 4, dD "is_name" 5, dD "is_amount" 14, dD "is_small" 15, dD "plus" 16, dD "minus" 17, dD "_added" 18, dD "times" 19, dD "_product" 20, dD "compare" 21, dD "smallest" 22, dD "largest" 23, dD "is_manner" 25, dD "share" 26, dD "sender_of" 33, dD "_check_place" 42, dD "_is_route" 43, dD "_are_buffers" 44, dD "_is_size" 45]
def fn1 : List Hk.DefP := [dD "_check_kind" 46, dD "_fits_kind" 47, dD "_check_promise" 48, dD "_is_manner_within" 49, dD "_law_bag" 51, dD "_law_draw" 52, dD "_law_of" 53, dD "_law_amount" 54, dD "_law_sum" 55, dD "_law_rest" 56, dD "_law_scaled" 57, dD "_law_less" 58, dD "_law_min" 59, dD "_law_max" 60, dD "_law_same" 61, dD "_law_some" 62, dD "_law_part" 63, dD "_law_name" 64, dD "_law_above" 65, dD "_law_wish" 66]
def fn2 : List Hk.DefP := [dD "_law_flow" 67, dD "_law_made_flow" 68, dD "_law_window" 69, dD "law" 70, ⟨fun K => He.ma K (He.ga K "Flow") "__init__", "__init__", "Flow.__init__", defArgs (inClass (top 41) 0), defBody (inClass (top 41) 0), defScope (inClass (top 41) 0), [], [("kind", .str "level"), ("size", .non), ("weight", .int 1), ("least", .glo "ZERO"), ("cap", .glo "TOP"), ("door", .non), ("way", .int 1), ("manner", .non), ("strange", .bl false)]⟩, ⟨fun K => He.ma K (He.ga K "Sender") "__init__", "__init__", "Sender.__init__", defArgs (inClass (top 28) 0), defBody (inClass (top 28) 0), defScope (inClass (top 28) 0), [], []⟩, ⟨fun K => He.ma K (He.ga K "WindowSender") "note_sent", "note_sent", "Sender.note_sent", defArgs (inClass (top 28) 2), defBody (inClass (top 28) 2), defScope (inClass (top 28) 2), [], []⟩, ⟨fun K => He.ma K (He.ga K "WindowSender") "asks", "asks", "Sender.asks", defArgs (inClass (top 28) 3), defBody (inClass (top 28) 3), defScope (inClass (top 28) 3), [], []⟩, ⟨fun K => He.ma K (He.ga K "WindowSender") "offer", "offer", "WindowSender.offer", defArgs (inClass (top 31) 1), defBody (inClass (top 31) 1), defScope (inClass (top 31) 1), [], []⟩, ⟨fun K => He.ma K (He.ga K "Flow") "__eq__", "__eq__", "Flow.__eq__", defArgs (inClass (top 41) 7), defBody (inClass (top 41) 7), defScope (inClass (top 41) 7), [], []⟩]
def fn : List Hk.DefP := fn0 ++ fn1 ++ fn2
def fa0 : List He.Fa := [.glo "Flow", .cls "Flow", .noat "Flow" "name", .noat "Flow" "route", .noat "Flow" "buffers", .noat "Flow" "kind", .noat "Flow" "size", .noat "Flow" "weight", .noat "Flow" "least", .noat "Flow" "cap", .noat "Flow" "door", .noat "Flow" "way", .noat "Flow" "manner", .noat "Flow" "strange", .noat "Flow" "last", .mkr "Flow", .meth "Flow" "__eq__", .glo "WindowSender", .cls "WindowSender", .noat "WindowSender" "flow"]
def fa1 : List He.Fa := [.noat "WindowSender" "age", .noat "WindowSender" "total", .noat "WindowSender" "_came", .mkr "WindowSender", .meth "WindowSender" "note_sent", .meth "WindowSender" "asks", .meth "WindowSender" "offer", .glo "LevelSender", .mkr "LevelSender", .glo "EagerSender", .mkr "EagerSender", .glo "ProbeSender", .mkr "ProbeSender", .glo "_wall", .glo "is_number", .glo "is_number_within", .glo "is_name", .glo "is_amount", .glo "is_small", .glo "plus"]
def fa2 : List He.Fa := [.glo "minus", .glo "_added", .glo "times", .glo "_product", .glo "compare", .glo "smallest", .glo "largest", .glo "is_manner", .glo "share", .glo "sender_of", .glo "_check_place", .glo "_is_route", .glo "_are_buffers", .glo "_is_size", .glo "_check_kind", .glo "_fits_kind", .glo "_check_promise", .glo "_is_manner_within", .glo "_law_bag", .glo "_law_draw"]
def fa3 : List He.Fa := [.glo "_law_of", .glo "_law_amount", .glo "_law_sum", .glo "_law_rest", .glo "_law_scaled", .glo "_law_less", .glo "_law_min", .glo "_law_max", .glo "_law_same", .glo "_law_some", .glo "_law_part", .glo "_law_name", .glo "_law_above", .glo "_law_wish", .glo "_law_flow", .glo "_law_made_flow", .glo "_law_window", .glo "law", .free "ValueError", .free "all"]
def fa4 : List He.Fa := [.free "any", .free "bool", .free "divmod", .free "int", .free "isinstance", .free "len", .free "list", .free "max", .free "min", .free "range", .free "set", .free "str", .free "sum", .free "super", .free "tuple", .free "zip", .int "SMALL_BOTTOM" 12, .int "LONGEST_ROUTE" 5, .int "LONGEST_WAY" 20, .int "MOST_WEIGHT" 12]
def fa5 : List He.Fa := [.int "MOST_TRIES" 12]
def fa : List He.Fa := fa0 ++ fa1 ++ fa2 ++ fa3 ++ fa4 ++ fa5
def ex (K : PySem.W.Frag) : Bool := Hk.tyB K "Flow" && He.eqO (PySem.W.nsIn K mainGlobals "gcd") (some (some (.builtin "math.gcd"))) && He.eqO (PySem.W.nsIn K mainGlobals "ZERO") (some (some (.ref (He.ga K "ZERO")))) && He.tupB K "ZERO" [.int 0, .int 1] && He.eqO (PySem.W.nsIn K mainGlobals "TOP") (some (some (.ref (He.ga K "TOP")))) && He.tupB K "TOP" [.int 1000, .int 1] && He.eqO (PySem.W.nsIn K mainGlobals "LARGEST_BUFFER") (some (some (.ref (He.ga K "LARGEST_BUFFER")))) && He.tupB K "LARGEST_BUFFER" [.int 1000000, .int 1] && He.eqO (PySem.W.nsIn K mainGlobals "KINDS") (some (some (.ref (He.ga K "KINDS")))) && He.tupB K "KINDS" [.str "level", .str "eager", .str "window", .str "probe"]
abbrev R : PySem.W.OpenRow := PySem.W.OpenLaw.row PySem.Challenge.rw_bandheld_k80_whole_windows_by_parts
def as_0 : List Addr := [3, 6, 4, 49, 56, 63, 70, 80, 100, 119, 122, 123, 130, 137, 144, 151, 158, 165, 172, 179, 186, 193, 200, 207, 252, 285, 320, 355, 414, 423, 424, 425, 500, 511, 516, 521, 528, 535, 542, 549]
def as_1 : List Addr := [556, 563, 570, 577, 584, 591, 598, 605, 612, 619, 626, 631, 638, 645, 650, 657, 664, 669, 676, 683, 690, 0, 48, 55, 62, 69, 79, 99, 118, 129, 136, 143, 150, 157, 164, 171, 178, 185, 192, 199]
def as_2 : List Addr := [206, 251, 284, 319, 354, 413, 422, 499, 510, 515, 520, 527, 534, 541, 548, 555, 562, 569, 576, 583, 590, 597, 604, 611, 618, 625, 630, 637, 644, 649, 656, 663, 668, 675, 682, 689, 43, 44, 45, 46]
def as_3 : List Addr := [47, 50, 51, 52, 53, 54, 57, 58, 59, 60, 61, 64, 65, 66, 67, 68, 78, 81, 97, 98, 116, 117, 124, 125, 126, 127, 128, 131, 132, 133, 134, 135, 138, 139, 140, 141, 142, 145, 146, 147]
def as_4 : List Addr := [148, 149, 152, 153, 154, 155, 156, 159, 160, 161, 162, 163, 166, 167, 168, 169, 170, 173, 174, 175, 176, 177, 180, 181, 182, 183, 184, 187, 188, 189, 190, 191, 194, 195, 196, 197, 198, 201, 202, 203]
def as_5 : List Addr := [204, 205, 221, 228, 235, 242, 249, 250, 253, 254, 270, 275, 282, 283, 303, 310, 317, 318, 338, 345, 352, 353, 371, 376, 383, 390, 397, 404, 411, 412, 417, 418, 419, 420, 421, 440, 447, 454, 461, 469]
def as_6 : List Addr := [476, 483, 490, 497, 498, 501, 502, 505, 506, 507, 508, 509, 512, 513, 514, 517, 518, 519, 522, 523, 524, 525, 526, 529, 530, 531, 532, 533, 536, 537, 538, 539, 540, 543, 544, 545, 546, 547, 550, 551]
def as_7 : List Addr := [552, 553, 554, 557, 558, 559, 560, 561, 564, 565, 566, 567, 568, 571, 572, 573, 574, 575, 578, 579, 580, 581, 582, 585, 586, 587, 588, 589, 592, 593, 594, 595, 596, 599, 600, 601, 602, 603, 606, 607]
def as_8 : List Addr := [608, 609, 610, 613, 614, 615, 616, 617, 620, 621, 622, 623, 624, 627, 628, 629, 632, 633, 634, 635, 636, 639, 640, 641, 642, 643, 646, 647, 648, 651, 652, 653, 654, 655, 658, 659, 660, 661, 662, 665]
def as_9 : List Addr := [666, 667, 670, 671, 672, 673, 674, 677, 678, 679, 680, 681, 684, 685, 686, 687, 688, 96, 115, 220, 227, 234, 241, 248, 269, 260, 274, 281, 302, 291, 309, 316, 337, 326, 344, 351, 370, 361, 375, 382]
def as_10 : List Addr := [389, 396, 403, 410, 439, 433, 446, 453, 460, 468, 462, 475, 482, 489, 496, 91, 92, 93, 94, 95, 110, 111, 112, 113, 114, 215, 216, 217, 218, 219, 222, 223, 224, 225, 226, 229, 230, 231, 232, 233]
def as_11 : List Addr := [236, 237, 238, 239, 240, 243, 244, 245, 246, 247, 266, 267, 268, 271, 272, 273, 276, 277, 278, 279, 280, 297, 298, 299, 300, 301, 304, 305, 306, 307, 308, 311, 312, 313, 314, 315, 332, 333, 334, 335]
def as_12 : List Addr := [336, 339, 340, 341, 342, 343, 346, 347, 348, 349, 350, 367, 368, 369, 372, 373, 374, 377, 378, 379, 380, 381, 384, 385, 386, 387, 388, 391, 392, 393, 394, 395, 398, 399, 400, 401, 402, 405, 406, 407]
def as_13 : List Addr := [408, 409, 434, 435, 436, 437, 438, 441, 442, 443, 444, 445, 448, 449, 450, 451, 452, 455, 456, 457, 458, 459, 463, 464, 465, 466, 467, 470, 471, 472, 473, 474, 477, 478, 479, 480, 481, 484, 485, 486]
def as_14 : List Addr := [487, 488, 491, 492, 493, 494, 495, 260, 291, 326, 361, 2]
def as_ : List Addr := as_0 ++ as_1 ++ as_2 ++ as_3 ++ as_4 ++ as_5 ++ as_6 ++ as_7 ++ as_8 ++ as_9 ++ as_10 ++ as_11 ++ as_12 ++ as_13 ++ as_14
def sf : List Hk.SupP := [⟨fun K => He.ma K (He.ga K "WindowSender") "__init__", fun K => He.ga K "WindowSender", fun K => He.ma K (He.ga K "Sender") "__init__", "__init__", "__init__", "WindowSender.__init__", defArgs (inClass (top 31) 0), defBody (inClass (top 31) 0), defScope (inClass (top 31) 0)⟩]
def file0 : Str := (PySem.Challenge.rw_bandheld_k80_whole_windows_by_parts).prog.main.file
noncomputable abbrev hk : PySem.W.Hook := Hk.hookS as_ fa fn ex sf file0
def ob (s : PySem.W.SharedT) : Hk.Al × Hk.Al := Hk.obGS as_ fa fn ex sf file0 (HandSHeadRun.getT s)
theorem ob_eq (s : PySem.W.SharedT) : ob s = hk.obs s.abs := Hk.obGS_eq (HandSHeadRun.getT_eq s)
def loose0 : List Str := ["_wall", "is_number", "is_number_within", "is_name", "is_amount", "is_small", "plus", "minus", "_added", "times", "_product", "compare", "smallest", "largest", "is_manner", "share", "sender_of", "_check_place", "_is_route", "_are_buffers"]
def loose1 : List Str := ["_is_size", "_check_kind", "_fits_kind", "_check_promise", "_is_manner_within", "_law_bag", "_law_draw", "_law_of", "_law_amount", "_law_sum", "_law_rest", "_law_scaled", "_law_less", "_law_min", "_law_max", "_law_same", "_law_some", "_law_part", "_law_name", "_law_above"]
def loose2 : List Str := ["_law_wish", "_law_flow", "_law_made_flow", "_law_window", "BandError", "BadFlow", "Short", "Sender", "LevelSender", "EagerSender", "WindowSender", "ProbeSender", "Flow", "ZERO", "TOP", "SMALL_BOTTOM", "KINDS", "LARGEST_BUFFER", "LONGEST_ROUTE", "LONGEST_WAY"]
def loose3 : List Str := ["MOST_WEIGHT", "MOST_TRIES"]
def loose : List Str := loose0 ++ loose1 ++ loose2 ++ loose3
abbrev vw : Program := PySem.W.view R.prog [0, 70]
theorem run1 (w : World) : Hk.At R 8000 w (fun x => Hk.obGS as_ fa fn ex sf file0 (HandSHeadRun.getT x.2)) (Hk.dueS fn sf) := by
  unfold Hk.At
  kernel_rfl
theorem run2 (w : World) : Hk.At R 8000 w (fun x => PySem.W.staticsOk (importedModules R.prog.main.body) x.1.heap x.2.abs.heap && PySem.W.laidKept x.1.heap x.2.abs.heap) true := by
  unfold Hk.At
  kernel_rfl
theorem run3 (w : World) : Hk.At R 8000 w (fun x => PySem.W.namesBound R.prog x.2.abs.heap && PySem.W.gensDone x.2.abs) true := by
  unfold Hk.At
  kernel_rfl
theorem run4 (w : World) : Hk.At R 8000 w (fun x => HandSHeadRun.seenQ vw loose (importedModules R.prog.main.body) (fun s => PySem.W.xlAt vw [] s && PySem.W.recOk R.toRowW.records s) x.2.abs) (PySem.W.openGood vw loose) := by
  unfold Hk.At
  kernel_rfl
theorem run (w : World) : HandSHeadRun.RunEqI R vw hk ob 8000 loose w := Hk.joinS (run1 w) (run2 w) (run3 w) (run4 w)
end YkHead

set_option maxHeartbeats 1000000
/-! Texts of numbers. -/
namespace Yk
open PySem PySem.Spec PyProof.Rows L2 TL
/-- the text of a number -/
def nt (n : Nat) : Str := Str.ofString (toString ((n : Nat) : Int))
theorem tl_nt (n : Nat) : tl (nt n) = numL n := tl_num n
theorem cps_nt (n : Nat) : (nt n).cps.toList = numL n := tl_nt n
theorem str_eq {a b : Str} (h : tl a = tl b) : a = b := Str.ext' (Array.toList_inj.mp h)
theorem len_nt (n : Nat) : (nt n).length = (numL n).length := by rw [← tl_nt]; exact (Array.length_toList).symm
theorem numL_le {n k : Nat} (hk : 0 < k) (h : n < 10 ^ k) : (numL n).length ≤ k := by
  unfold numL
  rw [List.length_map]
  exact (Nat.length_toDigits_le_iff (by decide) hk).mpr h
theorem numL_ne (n : Nat) : numL n ≠ [] := by
  unfold numL
  intro e
  have h := List.map_eq_nil_iff.mp e
  have h2 : 0 < (Nat.toDigits 10 n).length := by
    by_cases hn : n < 10
    · rw [Nat.toDigits_of_lt_base hn]; simp
    · rw [Nat.toDigits_of_base_le (by decide) (by omega)]; simp
  rw [h] at h2
  exact absurd h2 (by decide)
theorem numL_snoc {n d : Nat} (hn : 0 < n) (hd : d < 10) : numL (n * 10 + d) = numL n ++ numL d := by
  unfold numL
  rw [← List.map_append, Nat.toDigits_append_toDigits (by decide) hn hd, Nat.mul_comm]
theorem numL_digit {d : Nat} (hd : d < 10) : numL d = [48 + d] := numL_lt hd
/-- filled up with noughts -/
def padL (k n : Nat) : List Nat := List.replicate (k - (numL n).length) 48 ++ numL n
theorem numL_split : ∀ (k : Nat) (q r : Nat), 0 < q → r < 10 ^ (k + 1) → numL (q * 10 ^ (k + 1) + r) = numL q ++ padL (k + 1) r
  | 0, q, r, hq, hr => by
    have hr' : r < 10 := by simpa using hr
    unfold padL
    rw [numL_digit hr', show 10 ^ (0 + 1) = 10 from rfl, numL_snoc hq hr', numL_digit hr']
    rfl
  | k + 1, q, r, hq, hr => by
    have h1 : r / 10 < 10 ^ (k + 1) := Nat.div_lt_of_lt_mul (by rw [Nat.pow_succ] at hr; omega)
    have hd : r % 10 < 10 := Nat.mod_lt _ (by decide)
    have e : q * 10 ^ (k + 1 + 1) + r = (q * 10 ^ (k + 1) + r / 10) * 10 + r % 10 := by
      rw [Nat.pow_succ 10 (k + 1), ← Nat.mul_assoc, Nat.add_mul, Nat.add_assoc, Nat.div_add_mod' r 10]
    have hp : 0 < q * 10 ^ (k + 1) + r / 10 := by
      have : 0 < q * 10 ^ (k + 1) := Nat.mul_pos hq (Nat.pow_pos (by decide))
      omega
    rw [e, numL_snoc hp hd, numL_split k q (r / 10) hq h1, List.append_assoc]
    congr 1
    unfold padL
    by_cases hz : r / 10 = 0
    · have er : r = r % 10 := by omega
      rw [hz, numL_digit (show 0 < 10 by decide), numL_digit hd]
      have e2 : numL r = [48 + r % 10] := by rw [er]; simpa using numL_digit hd
      rw [e2]
      have h3 : List.replicate (k + 1 - [48 + 0].length) 48 ++ [48 + 0] = List.replicate (k + 1) 48 := by
        show List.replicate (k + 1 - 1) 48 ++ [48] = _
        rw [show k + 1 - 1 = k by omega, ← List.replicate_succ']
      rw [h3]
      show List.replicate (k + 1) 48 ++ _ = List.replicate (k + 1 + 1 - 1) 48 ++ _
      rw [show k + 1 + 1 - 1 = k + 1 by omega]
    · have e2 : numL r = numL (r / 10) ++ numL (r % 10) := by
        rw [← numL_snoc (by omega) hd, Nat.div_add_mod' r 10]
      rw [e2, List.length_append, numL_digit hd, List.append_assoc]
      rw [show k + 1 + 1 - ((numL (r / 10)).length + [48 + r % 10].length) = k + 1 - (numL (r / 10)).length by show k + 1 + 1 - (_ + 1) = _; omega]
theorem numL_range {n c : Nat} (h : c ∈ numL n) : 48 ≤ c ∧ c ≤ 57 := by
  unfold numL at h
  obtain ⟨ch, hch, e⟩ := List.mem_map.mp h
  have r := digit_range (Nat.isDigit_of_mem_toDigits (by decide) (by decide) hch)
  rw [← e]
  exact r
theorem zfill_tl {n k : Nat} (h : (numL n).length ≤ k) : tl (Txt.zfill (nt n) (k : Int)) = padL k n := by
  unfold Txt.zfill
  rw [len_nt]
  split
  · rename_i hk
    have e : (numL n).length = k := by omega
    unfold padL
    rw [e, Nat.sub_self, tl_nt]
    rfl
  · unfold zfilled
    have hc : ∀ c, (nt n).cps[0]? = some c → c ≠ 43 ∧ c ≠ 45 := by
      intro c hc
      have h1 : c ∈ numL n := by
        rw [← tl_nt]
        rw [← Array.getElem?_toList] at hc
        exact List.mem_of_getElem? hc
      have := numL_range h1
      omega
    have hp : tl (Builtin.Str.padded (nt n) (Int.toNat (k : Int) - (numL n).length) 0 48) = padL k n := by
      unfold Builtin.Str.padded padL
      show (Array.replicate (k - (numL n).length) 48 ++ (nt n).cps ++ Array.replicate 0 48).toList = _
      rw [Array.toList_append, Array.toList_append, cps_nt]
      simp
    split
    · rename_i e
      exact absurd rfl (hc _ e).1
    · rename_i e
      exact absurd rfl (hc _ e).2
    · exact hp
theorem read_nt {n : Nat} (h : (nt n).length ≤ 4300) : PySem.intText? (nt n) = some (n : Int) := by
  have hd : PySem.NumText.AllDigits (nt n).cps.toList := by
    intro c hc
    rw [cps_nt] at hc
    exact numL_range hc
  have hne : (nt n).cps.toList ≠ [] := by
    rw [cps_nt]
    exact numL_ne n
  have e := PySem.intText_digits hd hne h
  rw [cps_nt] at e
  rw [e]
  unfold numL
  rw [PySem.W.KIN.val_back]
theorem ascii_nt (n : Nat) : Txt.isascii (nt n) = true := by
  unfold Txt.isascii
  rw [← Array.all_toList, List.all_eq_true]
  intro c hc
  rw [cps_nt] at hc
  have := numL_range hc
  exact decide_eq_true (by omega)
theorem uni_digit : ∀ d : Nat, d < 10 → Unicode.isDigit (48 + d) = true := by decide +kernel
theorem digit_nt (n : Nat) : Txt.isdigit (nt n) = true := by
  unfold Txt.isdigit
  rw [Bool.and_eq_true]
  refine ⟨decide_eq_true ?_, ?_⟩
  · rw [len_nt]
    exact List.length_pos_iff.mpr (numL_ne n)
  · rw [← Array.all_toList, List.all_eq_true]
    intro c hc
    rw [cps_nt] at hc
    have h := numL_range hc
    have := uni_digit (c - 48) (by omega)
    rw [show 48 + (c - 48) = c by omega] at this
    exact this
theorem numL_head : ∀ n : Nat, 0 < n → ∃ c r, numL n = c :: r ∧ c ≠ 48 := by
  intro n
  induction n using Nat.strongRecOn with
  | _ n ih =>
    intro hn
    by_cases h : n < 10
    · exact ⟨48 + n, [], numL_digit h, by omega⟩
    · obtain ⟨c, r, e, hc⟩ := ih (n / 10) (by omega) (by omega)
      refine ⟨c, r ++ numL (n % 10), ?_, hc⟩
      have h2 := numL_snoc (n := n / 10) (d := n % 10) (by omega) (Nat.mod_lt _ (by decide))
      rw [show n / 10 * 10 + n % 10 = n by omega, e] at h2
      exact h2
theorem nt_zero : nt 0 = Str.ofString "0" := by decide +kernel
theorem starts_nt {n : Nat} (hn : 0 < n) : Txt.startswith (nt n) (Str.ofString "0") = false := by
  unfold Txt.startswith
  obtain ⟨c, r, e, hc⟩ := numL_head n hn
  rw [Bool.and_eq_false_iff]
  right
  unfold Builtin.Str.subAt
  rw [show (Str.ofString "0") = ⟨#[48]⟩ by decide +kernel]
  rw [beq_eq_false_iff_ne]
  intro z
  have z2 := congrArg Array.toList z
  rw [Array.toList_extract] at z2
  rw [cps_nt, e] at z2
  simp at z2
  have z3 : List.take 1 (c :: r) = [48] := z2
  simp at z3
  exact hc z3
/-- the text of an amount -/
def amTxt (q : Rat) : Str := if q.den = 1 then nt q.num.toNat else nt q.num.toNat ++ Str.ofString "/" ++ nt q.den
theorem slash_nt (n : Nat) : 47 ∉ tl (nt n) := fun h => by rw [tl_nt] at h; have := numL_range h; omega
theorem slash : Str.ofString "/" = ⟨#[47]⟩ := by decide +kernel
theorem part_nt (n : Nat) : Txt.partition (nt n) (Str.ofString "/") = (nt n, Str.empty, Str.empty) := partition_none (y := Str.ofString "/") (s := 47) (S := []) (by rw [slash]) (slash_nt n)
theorem part_am (n d : Nat) : Txt.partition (nt n ++ Str.ofString "/" ++ nt d) (Str.ofString "/") = (nt n, Str.ofString "/", nt d) := partition_app (y := Str.ofString "/") (s := 47) (S := []) (by rw [slash]) (slash_nt n)
theorem joinL_nil : ∀ l : List (List Nat), joinL [] l = l.flatten
  | [] => rfl
  | [p] => by simp [joinL]
  | p :: q :: r => by
    show p ++ ([] ++ joinL [] (q :: r)) = _
    rw [joinL_nil (q :: r)]
    simp
theorem tl_join0 (parts : List Str) : tl (Txt.join Str.empty parts) = (parts.map tl).flatten := by
  rw [join_eq, tl_join]
  exact joinL_nil _
theorem len_sum : ∀ parts : List Str, (parts.map (·.length)).sum = (parts.map tl).flatten.length
  | [] => rfl
  | p :: r => by
    show p.length + (r.map (·.length)).sum = (tl p ++ (r.map tl).flatten).length
    rw [List.length_append, len_sum r]
    congr 1
theorem bits_lt {n b : Nat} (h : n < 2 ^ b) : n < 10 ^ b := Nat.lt_of_lt_of_le h (Nat.pow_le_pow_left (by decide) b)
theorem log_lt {n b : Nat} (hb : 0 < b) (h : n < 2 ^ b) : n.log2 < b := PySem.Flt.log2_lt_of hb h
end Yk

set_option maxHeartbeats 1000000
namespace Yk
open PySem PySem.Spec PyProof.Rows L2

section
variable {P : Program} {w : World} {K : PySem.W.Frag} {mg : Str → Option Value} {base : Heap} {f : Addr} {fd : FuncData}
abbrev s_added : Stmt := top 18
theorem c_added : FnScope ["first", "second", "top", "bottom", "other_top", "other_bottom", "common", "rest", "new_top", "shared"] ["first", "second"] (defScope s_added) := ⟨rfl, rfl, rfl, by decide +kernel, rfl, by decide +kernel, by decide +kernel⟩
theorem f_added (F : FunD K "_added" "_added" (defArgs s_added) (defBody s_added) (defScope s_added) [] [] f fd) (hm : mg "_added" = some (.ref f)) (T : Bg mg) : Fn P w K mg base 1 "_added" (spAdded K) := by
  refine fn_def F hm c_added (fun vs H Q E h => ?_) (fun _ _ _ _ _ _ us hl => match us, hl with | [_, _], _ => rfl) (fun cdv A outer s H vs Q E hr h => ?_)
  · obtain ⟨v1, v2, p, q, rfl, _⟩ := h
    rfl
  · obtain ⟨v1, v2, p, q, rfl, ⟨a1, rfl, h1⟩, ⟨a2, rfl, h2⟩, z1, z2, k⟩ := h
    have nd := c_added.nd
    refine ⟨_, (pss_cons (ps_asg (pv 0) (pg_tup rfl (pgs_cons (pg_name (i := 2) nd rfl (by first | exact Or.inl rfl | exact Or.inr rfl)) (pgs_cons (pg_name (i := 3) nd rfl (by first | exact Or.inl rfl | exact Or.inr rfl)) pgs_nil))))
      (pss_cons (ps_asg (pv 1) (pg_tup rfl (pgs_cons (pg_name (i := 4) nd rfl (by first | exact Or.inl rfl | exact Or.inr rfl)) (pgs_cons (pg_name (i := 5) nd rfl (by first | exact Or.inl rfl | exact Or.inr rfl)) pgs_nil))))
      (pss_cons (ps_set (i := 6) nd rfl (by first | exact Or.inl rfl | exact Or.inr rfl) (pe_callBfun cr_gcd (by rfl) T.gcd (pa_cons (pv 3) (pa_cons (pv 5) pa_nil))))
      (pss_cons (ps_set (i := 7) nd rfl (by first | exact Or.inl rfl | exact Or.inr rfl) (pe_op op_fdivW (pv 3) (pv 6)))
      (pss_cons (ps_set (i := 8) nd rfl (by first | exact Or.inl rfl | exact Or.inr rfl) (pe_op op_add (pe_op op_mulW (pv 2) (pe_op op_fdivW (pv 5) (pv 6))) (pe_op op_mulW (pv 4) (pv 7))))
      (pss_cons (ps_set (i := 9) nd rfl (by first | exact Or.inl rfl | exact Or.inr rfl) (pe_callBfun cr_gcd (by rfl) T.gcd (pa_cons (pv 8) (pa_cons (pv 6) pa_nil))))
      (pss_one (ps_ret (pe_tup (pa_cons (pe_op op_fdivW (pv 8) (pv 9)) (pa_cons (pe_op op_mulW (pv 7) (pe_op op_fdivW (pv 5) (pv 9))) pa_nil))))))))))), ?_⟩
    show (_ : TS) _ [some _, some _, none, none, none, none, none, none, none, none] _
    try dsimp only [cxOf, Cx.nox]
    have g0 : 0 < Nat.gcd p.den q.den := Nat.gcd_pos_of_pos_left _ p.den_pos
    have gl : Nat.gcd p.den q.den < 2 ^ 4000 := Nat.lt_of_le_of_lt (Nat.gcd_le_left _ p.den_pos) z1.2
    have e1 : (p.den : Int).natAbs < 2 ^ 4000 := z1.2
    have e2 : (q.den : Int).natAbs < 2 ^ 4000 := z2.2
    have d1 : ∀ i : Int, CDivW i ((Nat.gcd p.den q.den : Nat) : Int) := fun i => cdiv g0 gl (by decide) (by decide)
    have m1 : CMulW p.num ((q.den : Int) / ((Nat.gcd p.den q.den : Nat) : Int)) := cmul z1.1 (dlt e2) (by decide) (by decide) (by decide)
    have m2 : CMulW q.num ((p.den : Int) / ((Nat.gcd p.den q.den : Nat) : Int)) := cmul z2.1 (dlt e1) (by decide) (by decide) (by decide)
    have s0 : ∀ n : Nat, 0 < Nat.gcd n (Nat.gcd p.den q.den) := fun n => Nat.gcd_pos_of_pos_right _ g0
    have sl : ∀ n : Nat, Nat.gcd n (Nat.gcd p.den q.den) < 2 ^ 4000 := fun n => Nat.lt_of_le_of_lt (Nat.gcd_le_right _ g0) gl
    have d2 : ∀ (i : Int) (n : Nat), CDivW i ((Nat.gcd n (Nat.gcd p.den q.den) : Nat) : Int) := fun i n => cdiv (s0 n) (sl n) (by decide) (by decide)
    have m3 : ∀ n : Nat, CMulW ((p.den : Int) / ((Nat.gcd p.den q.den : Nat) : Int)) ((q.den : Int) / ((Nat.gcd n (Nat.gcd p.den q.den) : Nat) : Int)) := fun n => cmul (dlt e1) (dlt e2) (by decide) (by decide) (by decide)
    walk_at "go"
    refine r_I (d1 _) ?_
    walk_at "go"
    refine r_I (d1 _) ?_
    walk_at "go"
    refine r_I (d2 _ _) ?_
    walk_at "go"
    refine r_I (d2 _ _) ?_
    walk_at "go"
    refine r_I (m3 _) ?_
    walk_at "go"
    refine k _ _ (Ext.refl.new (by assumption)) ⟨_, rfl, ?_⟩
    obtain ⟨x1, x2⟩ := add_int p q
    rw [x1, x2]
    exact tupS
end
end Yk

set_option maxHeartbeats 1000000
namespace Yk
open PySem PySem.Spec PyProof.Rows L2

section
variable {P : Program} {w : World} {K : PySem.W.Frag} {mg : Str → Option Value} {base : Heap} {f : Addr} {fd : FuncData}
def spProd (K : PySem.W.Frag) : Sp := fun vs H Q _ => ∃ p q : Rat, vs = [.int p.num, .int (p.den : Int), .int q.num, .int (q.den : Int)] ∧ Sz 4000 p ∧ Sz 4000 q ∧ RetAm K H Q (p * q)
abbrev s_product : Stmt := top 20
theorem c_product : FnScope ["top", "bottom", "other_top", "other_bottom", "left", "right"] ["top", "bottom", "other_top", "other_bottom"] (defScope s_product) := ⟨rfl, rfl, rfl, by decide +kernel, rfl, by decide +kernel, by decide +kernel⟩
theorem f_product (F : FunD K "_product" "_product" (defArgs s_product) (defBody s_product) (defScope s_product) [] [] f fd) (hm : mg "_product" = some (.ref f)) (T : Bg mg) : Fn P w K mg base 1 "_product" (spProd K) := by
  refine fn_def F hm c_product (fun vs H Q E h => ?_) (fun _ _ _ _ _ _ us hl => match us, hl with | [_, _, _, _], _ => rfl) (fun cdv A outer s H vs Q E hr h => ?_)
  · obtain ⟨p, q, rfl, _⟩ := h
    rfl
  · obtain ⟨p, q, rfl, z1, z2, k⟩ := h
    have nd := c_product.nd
    refine ⟨_, (pss_cons (ps_set (i := 4) nd rfl (by first | exact Or.inl rfl | exact Or.inr rfl) (pe_callBfun cr_gcd (by rfl) T.gcd (pa_cons (pv 0) (pa_cons (pv 3) pa_nil))))
      (pss_cons (ps_set (i := 5) nd rfl (by first | exact Or.inl rfl | exact Or.inr rfl) (pe_callBfun cr_gcd (by rfl) T.gcd (pa_cons (pv 2) (pa_cons (pv 1) pa_nil))))
      (pss_one (ps_ret (pe_tup (pa_cons (pe_op op_mulW (pe_op op_fdivW (pv 0) (pv 4)) (pe_op op_fdivW (pv 2) (pv 5))) (pa_cons (pe_op op_mulW (pe_op op_fdivW (pv 1) (pv 5)) (pe_op op_fdivW (pv 3) (pv 4))) pa_nil))))))), ?_⟩
    show (_ : TS) _ [some _, some _, some _, some _, none, none] _
    try dsimp only [cxOf, Cx.nox]
    have g1 : 0 < Nat.gcd p.num.natAbs q.den := Nat.gcd_pos_of_pos_right _ q.den_pos
    have g2 : 0 < Nat.gcd q.num.natAbs p.den := Nat.gcd_pos_of_pos_right _ p.den_pos
    have l1 : Nat.gcd p.num.natAbs q.den < 2 ^ 4000 := Nat.lt_of_le_of_lt (Nat.gcd_le_right _ q.den_pos) z2.2
    have l2 : Nat.gcd q.num.natAbs p.den < 2 ^ 4000 := Nat.lt_of_le_of_lt (Nat.gcd_le_right _ p.den_pos) z1.2
    have e1 : (p.den : Int).natAbs < 2 ^ 4000 := z1.2
    have e2 : (q.den : Int).natAbs < 2 ^ 4000 := z2.2
    have d1 : ∀ i : Int, CDivW i ((Nat.gcd p.num.natAbs q.den : Nat) : Int) := fun i => cdiv g1 l1 (by decide) (by decide)
    have d2 : ∀ i : Int, CDivW i ((Nat.gcd q.num.natAbs p.den : Nat) : Int) := fun i => cdiv g2 l2 (by decide) (by decide)
    have m1 : CMulW (p.num / ((Nat.gcd p.num.natAbs q.den : Nat) : Int)) (q.num / ((Nat.gcd q.num.natAbs p.den : Nat) : Int)) := cmul (dlt z1.1) (dlt z2.1) (by decide) (by decide) (by decide)
    have m2 : CMulW ((p.den : Int) / ((Nat.gcd q.num.natAbs p.den : Nat) : Int)) ((q.den : Int) / ((Nat.gcd p.num.natAbs q.den : Nat) : Int)) := cmul (dlt e1) (dlt e2) (by decide) (by decide) (by decide)
    walk_at "go"
    refine r_I (d1 _) ?_
    walk_at "go"
    refine r_I (d2 _) ?_
    walk_at "go"
    refine r_I (d2 _) ?_
    walk_at "go"
    refine r_I (d1 _) ?_
    walk_at "go"
    refine k _ _ (Ext.refl.new (by assumption)) ⟨_, rfl, ?_⟩
    obtain ⟨x1, x2⟩ := mul_int' p q
    rw [x1, x2]
    exact tupS
def spTimes (K : PySem.W.Frag) : Sp := fun vs H Q _ => ∃ v1 v2 p q, vs = [v1, v2] ∧ Am K H v1 p ∧ Am K H v2 q ∧ Sz 4000 p ∧ Sz 4000 q ∧ RetAm K H Q (p * q)
abbrev s_times : Stmt := top 19
theorem c_times : FnScope ["first", "second"] ["first", "second"] (defScope s_times) := ⟨rfl, rfl, rfl, by decide +kernel, rfl, by decide +kernel, by decide +kernel⟩
theorem f_times (F : FunD K "times" "times" (defArgs s_times) (defBody s_times) (defScope s_times) [] [] f fd) (hm : mg "times" = some (.ref f)) (F_product : Fn P w K mg base 1 "_product" (spProd K)) : Fn P w K mg base 2 "times" (spTimes K) := by
  refine fn_def F hm c_times (fun vs H Q E h => ?_) (fun _ _ _ _ _ _ us hl => match us, hl with | [_, _], _ => rfl) (fun cdv A outer s H vs Q E hr h => ?_)
  · obtain ⟨v1, v2, p, q, rfl, _⟩ := h
    rfl
  · obtain ⟨v1, v2, p, q, rfl, ⟨a1, rfl, h1⟩, ⟨a2, rfl, h2⟩, z1, z2, k⟩ := h
    have nd := c_times.nd
    refine ⟨_, (pss_one (ps_ret (pe_fn F_product (hr.mono (by decide)) (pa_cons (pe_ix ix_tup (pv 0) pe_int (fun _ _ => rfl)) (pa_cons (pe_ix ix_tup (pv 0) pe_int (fun _ _ => rfl)) (pa_cons (pe_ix ix_tup (pv 1) pe_int (fun _ _ => rfl)) (pa_cons (pe_ix ix_tup (pv 1) pe_int (fun _ _ => rfl)) pa_nil))))))), ?_⟩
    show (_ : TS) _ [some _, some _] _
    try dsimp only [cxOf, Cx.nox]
    walk_at "go"
    exact ⟨p, q, rfl, z1, z2, k⟩
def spOver (K : PySem.W.Frag) : Sp := fun vs H Q _ => ∃ v1 v2 p q, vs = [v1, v2] ∧ Am K H v1 p ∧ Am K H v2 q ∧ 0 < q ∧ Sz 4000 p ∧ Sz 4000 q ∧ RetAm K H Q (p / q)
def cmpQ (p q : Rat) : Int := if p < q then -1 else if q < p then 1 else 0
def spCompare (K : PySem.W.Frag) : Sp := fun vs H Q _ => ∃ v1 v2 p q, vs = [v1, v2] ∧ Am K H v1 p ∧ Am K H v2 q ∧ Sz 4000 p ∧ Sz 4000 q ∧ Q (.int (cmpQ p q)) H
abbrev s_compare : Stmt := top 21
theorem c_compare : FnScope ["first", "second", "left", "right"] ["first", "second"] (defScope s_compare) := ⟨rfl, rfl, rfl, by decide +kernel, rfl, by decide +kernel, by decide +kernel⟩
theorem f_compare (F : FunD K "compare" "compare" (defArgs s_compare) (defBody s_compare) (defScope s_compare) [] [] f fd) (hm : mg "compare" = some (.ref f))  : Fn P w K mg base 1 "compare" (spCompare K) := by
  refine fn_def F hm c_compare (fun vs H Q E h => ?_) (fun _ _ _ _ _ _ us hl => match us, hl with | [_, _], _ => rfl) (fun cdv A outer s H vs Q E hr h => ?_)
  · obtain ⟨v1, v2, p, q, rfl, _⟩ := h
    rfl
  · obtain ⟨v1, v2, p, q, rfl, ⟨a1, rfl, h1⟩, ⟨a2, rfl, h2⟩, z1, z2, k⟩ := h
    have nd := c_compare.nd
    refine ⟨_, (pss_cons (ps_set (i := 2) nd rfl (by first | exact Or.inl rfl | exact Or.inr rfl) (pe_op op_mulW (pe_ix ix_tup (pv 0) pe_int (fun _ _ => rfl)) (pe_ix ix_tup (pv 1) pe_int (fun _ _ => rfl))))
      (pss_cons (ps_set (i := 3) nd rfl (by first | exact Or.inl rfl | exact Or.inr rfl) (pe_op op_mulW (pe_ix ix_tup (pv 1) pe_int (fun _ _ => rfl)) (pe_ix ix_tup (pv 0) pe_int (fun _ _ => rfl))))
      (pss_cons (ps_if (pt_cmpR op_lt (pv 2) (pv 3) (nomark _))
        (pss_one (ps_ret (pe_un un_neg pe_int)))
        pss_nil)
      (pss_cons (ps_if (pt_cmpR op_gt (pv 2) (pv 3) (nomark _))
        (pss_one (ps_ret pe_int))
        pss_nil)
      (pss_one (ps_ret pe_int)))))), ?_⟩
    show (_ : TS) _ [some _, some _, none, none] _
    try dsimp only [cxOf, Cx.nox]
    have e1 : (p.den : Int).natAbs < 2 ^ 4000 := z1.2
    have e2 : (q.den : Int).natAbs < 2 ^ 4000 := z2.2
    have m1 : CMulW p.num (q.den : Int) := cmul z1.1 e2 (by decide) (by decide) (by decide)
    have m2 : CMulW q.num (p.den : Int) := cmul z2.1 e1 (by decide) (by decide) (by decide)
    walk_at "go"
    refine r_dec (fun hlt => ?_) (fun hlt => ?_)
    · walk_at "go"
      unfold cmpQ at k
      rw [if_pos ((Rat.lt_iff p q).mpr hlt)] at k
      exact k
    · walk_at "go"
      have n1 : ¬ p < q := fun z => hlt ((Rat.lt_iff p q).mp z)
      refine r_dec (fun hgt => ?_) (fun hgt => ?_)
      · walk_at "go"
        unfold cmpQ at k
        rw [if_neg n1, if_pos ((Rat.lt_iff q p).mpr hgt)] at k
        exact k
      · walk_at "go"
        have n2 : ¬ q < p := fun z => hgt ((Rat.lt_iff q p).mp z)
        unfold cmpQ at k
        rw [if_neg n1, if_neg n2] at k
        exact k
def spMinus (K : PySem.W.Frag) : Sp := fun vs H Q _ => ∃ v1 v2 p q, vs = [v1, v2] ∧ Am K H v1 p ∧ Am K H v2 q ∧ q ≤ p ∧ Sz 4000 p ∧ Sz 4000 q ∧ RetAm K H Q (p - q)
abbrev s_minus : Stmt := top 17
theorem c_minus : FnScope ["first", "second"] ["first", "second"] (defScope s_minus) := ⟨rfl, rfl, rfl, by decide +kernel, rfl, by decide +kernel, by decide +kernel⟩
theorem f_minus (F : FunD K "minus" "minus" (defArgs s_minus) (defBody s_minus) (defScope s_minus) [] [] f fd) (hm : mg "minus" = some (.ref f)) (Fcompare : Fn P w K mg base 1 "compare" (spCompare K)) (F_added : Fn P w K mg base 1 "_added" (spAdded K)) : Fn P w K mg base 2 "minus" (spMinus K) := by
  refine fn_def F hm c_minus (fun vs H Q E h => ?_) (fun _ _ _ _ _ _ us hl => match us, hl with | [_, _], _ => rfl) (fun cdv A outer s H vs Q E hr h => ?_)
  · obtain ⟨v1, v2, p, q, rfl, _⟩ := h
    rfl
  · obtain ⟨v1, v2, p, q, rfl, ⟨a1, rfl, h1⟩, ⟨a2, rfl, h2⟩, hle, z1, z2, k⟩ := h
    have nd := c_minus.nd
    refine ⟨_, (pss_cons (ps_if (pt_cmpR op_lt (pe_fn Fcompare (hr.mono (by decide)) (pa_cons (pv 0) (pa_cons (pv 1) pa_nil))) pe_int (nomark _))
        (pss_one ps_never)
        pss_nil)
      (pss_one (ps_ret (pe_fn F_added (hr.mono (by decide)) (pa_cons (pv 0) (pa_cons (pe_tup (pa_cons (pe_un un_neg (pe_ix ix_tup (pv 1) pe_int (fun _ _ => rfl))) (pa_cons (pe_ix ix_tup (pv 1) pe_int (fun _ _ => rfl)) pa_nil))) pa_nil)))))), ?_⟩
    show (_ : TS) _ [some _, some _] _
    try dsimp only [cxOf, Cx.nox]
    walk_at "go"
    refine ⟨_, _, p, q, rfl, ⟨_, rfl, h1⟩, ⟨_, rfl, h2⟩, z1, z2, ?_⟩
    walk_at "go"
    have n1 : ¬ cmpQ p q < 0 := by
      unfold cmpQ
      rw [if_neg (Rat.not_lt.mpr hle)]
      split <;> omega
    refine r_dec (fun hlt => absurd hlt n1) (fun _ => ?_)
    walk_at "go"
    refine ⟨_, _, p, -q, rfl, ⟨_, rfl, tupN h1 (by assumption)⟩, ⟨_, rfl, ?_⟩, z1, sz_neg z2, fun v H' e a => ?_⟩
    · rw [Rat.neg_num]
      exact tupS
    · refine k v H' ((Ext.refl.new (by assumption)).trans e) ?_
      rw [Rat.sub_eq_add_neg]
      exact a
/-- the sum of a row, from the left -/
def sumQ (qs : List Rat) : Rat := qs.foldl (· + ·) 0
theorem sumQ_take {qs : List Rat} {i : Nat} {q : Rat} (h : qs[i]? = some q) : sumQ (qs.take (i + 1)) = sumQ (qs.take i) + q := by
  obtain ⟨hl, e⟩ := List.getElem?_eq_some_iff.mp h
  unfold sumQ
  rw [← List.take_append_getElem hl, List.foldl_append, e]
  rfl
theorem sumQ_sz {m : Nat} : ∀ {qs : List Rat} (i : Nat), (∀ q ∈ qs, Sz m q) → i ≤ qs.length → Sz (1 + i * (m + 1)) (sumQ (qs.take i))
  | qs, 0, _, _ => by
    rw [List.take_zero]
    refine ⟨Nat.two_pow_pos _, ?_⟩
    rw [Nat.zero_mul]
    decide
  | qs, i + 1, h, hi => by
    have hq : qs[i]? = some qs[i] := List.getElem?_eq_getElem hi
    rw [sumQ_take hq]
    have h1 := sumQ_sz i h (by omega)
    have h2 := h qs[i] (List.getElem_mem hi)
    refine (sz_add h1 h2).mono ?_
    rw [Nat.add_mul]
    omega
def spPlusT (K : PySem.W.Frag) : Sp := fun vs H Q _ => ∃ t xs qs m, vs = [V.ref t] ∧ SqT K H t xs ∧ Ams K H xs qs ∧ (∀ q ∈ qs, Sz m q) ∧ m ≤ 4000 ∧ 1 + qs.length * (m + 1) ≤ 4000 ∧ RetAm K H Q (sumQ qs)
def spPlus (K : PySem.W.Frag) : Sp := fun vs H Q _ => ∃ qs m, Ams K H vs qs ∧ (∀ q ∈ qs, Sz m q) ∧ m ≤ 4000 ∧ 1 + qs.length * (m + 1) ≤ 4000 ∧ RetAm K H Q (sumQ qs)
abbrev s_plus : Stmt := top 16
theorem c_plus : FnScope ["amounts", "found", "further"] ["amounts"] (defScope s_plus) := ⟨rfl, rfl, rfl, by decide +kernel, rfl, by decide +kernel, by decide +kernel⟩
theorem f_plus (F : FunD K "plus" "plus" (defArgs s_plus) (defBody s_plus) (defScope s_plus) [] [] f fd) (hm : mg "plus" = some (.ref f)) (TZ : ∃ z, mg "ZERO" = some (.ref z) ∧ ∀ H, SqT K H z [.int 0, .int 1]) (F_added : Fn P w K mg base 1 "_added" (spAdded K)) : Fn P w K mg base 2 "plus" (spPlus K) := by
  refine fn_star (ps := []) (pv := "amounts") (sp := spPlusT K) F hm c_plus (fun _ _ _ _ _ _ us rest hl => match us, rest, hl with | [], [], _ => rfl | [], _ :: _, _ => rfl) (fun cdv A outer s H vs Q E hr h => ?_) ?himp
  case himp =>
    exact fun vs H Q E ⟨qs, m, h1, h2, h3, h4, k⟩ => ⟨[], vs, rfl, rfl, Nat.le_trans (by rw [h1.1]; have := Nat.le_mul_of_pos_right qs.length (show 0 < m + 1 by omega); omega : vs.length ≤ 4000) (by decide), fun p hp => ⟨p, vs, qs, m, rfl, tupS, h1.x0 (Ext.refl.new hp), h2, h3, h4, fun v H' e a => k v H' ((Ext.refl.new hp).trans e) a⟩⟩
  · obtain ⟨t, xs, qs, m, rfl, ht, ha, hz, hm, hl, k⟩ := h
    have nd := c_plus.nd
    obtain ⟨z, mz, TZ⟩ := TZ
    refine ⟨_, (pss_cons (ps_set (i := 1) nd rfl (by first | exact Or.inl rfl | exact Or.inr rfl) (pe_glob (v := .ref z) rfl mz rfl))
      (pss_cons (ps_for PassesOwn.never rfl (pi_tup (pv 0)) (pg_name (i := 2) nd rfl (by first | exact Or.inl rfl | exact Or.inr rfl))
        (pss_one (ps_set (i := 1) nd rfl (by first | exact Or.inl rfl | exact Or.inr rfl) (pe_fn F_added (hr.mono (by decide)) (pa_cons (pv 1) (pa_cons (pv 2) pa_nil))))))
      (pss_one (ps_ret (pv 1))))), ?_⟩
    show (_ : TS) _ [some _, none, none] _
    try dsimp only [cxOf, Cx.nox]
    walk_at "go"
    refine r_forT rfl ht (fun i σ H1 => Ext [] H H1 ∧ ∃ fv u, σ = [some (.ref t), some fv, u] ∧ Am K H1 fv (sumQ (qs.take i))) ⟨Ext.refl, _, _, rfl, ⟨z, rfl, TZ _⟩⟩ (fun i σ H1 _ h => tup0 h.1 ht) ?_ ?_
    · rintro i x σ H1 hx ⟨e1, fv, u, rfl, hf⟩
      have hi : i < qs.length := by rw [← ha.1]; exact (List.getElem?_eq_some_iff.mp hx).1
      have hq : qs[i]? = some qs[i] := List.getElem?_eq_getElem hi
      have hb := sumQ_sz i hz (by omega)
      have hsz : 1 + i * (m + 1) ≤ 4000 := Nat.le_trans (by have := Nat.mul_le_mul_right (m + 1) (Nat.le_of_lt hi); omega) hl
      walk_at "go"
      refine ⟨_, _, _, qs[i], rfl, hf, (ha.2 i x _ hx hq).x0 e1, hb.mono hsz, (hz _ (List.getElem_mem hi)).mono hm, fun v H' e a => ?_⟩
      walk_at "go"
      refine ⟨e1.trans e, _, _, rfl, ?_⟩
      rw [sumQ_take hq]
      exact a
    · rintro σ H1 ⟨e1, fv, u, rfl, hf⟩
      walk_at "go"
      rw [ha.1, List.take_length] at hf
      exact k _ _ e1 hf
end
end Yk

set_option maxHeartbeats 1000000
namespace Yk
open PySem PySem.Spec PyProof.Rows L2

section
variable {P : Program} {w : World} {K : PySem.W.Frag} {mg : Str → Option Value} {base : Heap} {f : Addr} {fd : FuncData}
def spMinT (F : Rat → List Rat → Rat) (K : PySem.W.Frag) : Sp := fun vs H Q _ => ∃ v0 q0 t xs qs, vs = [v0, V.ref t] ∧ Am K H v0 q0 ∧ Sz 4000 q0 ∧ SqT K H t xs ∧ Ams K H xs qs ∧ (∀ q ∈ qs, Sz 4000 q) ∧ RetAm K H Q (F q0 qs)
def spMin (F : Rat → List Rat → Rat) (K : PySem.W.Frag) : Sp := fun vs H Q _ => ∃ q0 qs, Ams K H vs (q0 :: qs) ∧ (∀ q ∈ q0 :: qs, Sz 4000 q) ∧ qs.length ≤ 4000 ∧ RetAm K H Q (F q0 qs)
theorem spMin_imp {F : Rat → List Rat → Rat} : ∀ vs H Q E, spMin F K vs H Q E → ∃ ws rest, vs = ws ++ rest ∧ ws.length = (["first"] : List Str).length ∧ rest.length ≤ sizeLine ∧ ∀ p, H p = none → spMinT F K (ws ++ [V.ref p]) (upd H p (.tup rest)) Q E := by
  rintro vs H Q E ⟨q0, qs, h1, h2, h3, k⟩
  cases vs with
  | nil => exact absurd h1.1 (by simp)
  | cons v0 rest =>
    have hl : rest.length = qs.length := by simpa using h1.1
    have h4 : Ams K H rest qs := ⟨hl, fun i v q a b => h1.2 (i + 1) v q (by simpa using a) (by simpa using b)⟩
    refine ⟨[v0], rest, rfl, rfl, Nat.le_trans (by omega : rest.length ≤ 4000) (by decide), fun p hp => ⟨v0, q0, p, rest, qs, rfl, (h1.2 0 v0 q0 rfl rfl).x0 (Ext.refl.new hp), h2 q0 List.mem_cons_self, tupS, h4.x0 (Ext.refl.new hp), fun q hq => h2 q (List.mem_cons_of_mem _ hq), fun v H' e a => k v H' ((Ext.refl.new hp).trans e) a⟩⟩
theorem cmp_lt (p q : Rat) : cmpQ p q < 0 ↔ p < q := by
  unfold cmpQ
  by_cases h : p < q
  · rw [if_pos h]; exact ⟨fun _ => h, fun _ => by decide⟩
  · rw [if_neg h]
    refine ⟨fun z => ?_, fun z => absurd z h⟩
    split at z <;> omega
theorem cmp_gt (p q : Rat) : 0 < cmpQ p q ↔ q < p := by
  unfold cmpQ
  by_cases h : p < q
  · rw [if_pos h]
    exact ⟨fun z => by omega, fun z => absurd (Rat.le_of_lt h) (Rat.not_le.mpr z)⟩
  · rw [if_neg h]
    by_cases h2 : q < p
    · rw [if_pos h2]; exact ⟨fun _ => h2, fun _ => by decide⟩
    · rw [if_neg h2]; exact ⟨fun z => by omega, fun z => absurd z h2⟩
abbrev s_smallest : Stmt := top 22
theorem c_smallest : FnScope ["first", "others", "found", "other"] ["first", "others"] (defScope s_smallest) := ⟨rfl, rfl, rfl, by decide +kernel, rfl, by decide +kernel, by decide +kernel⟩
theorem f_smallest (F : FunD K "smallest" "smallest" (defArgs s_smallest) (defBody s_smallest) (defScope s_smallest) [] [] f fd) (hm : mg "smallest" = some (.ref f)) (Fcompare : Fn P w K mg base 1 "compare" (spCompare K)) : Fn P w K mg base 2 "smallest" (spMin minQ K) := by
  refine fn_star (ps := ["first"]) (pv := "others") (sp := spMinT minQ K) F hm c_smallest (fun _ _ _ _ _ _ us rest hl => match us, rest, hl with | [_], [], _ => rfl | [_], _ :: _, _ => rfl) (fun cdv A outer s H vs Q E hr h => ?_) ?himp
  case himp =>
    exact spMin_imp
  · obtain ⟨v0, q0, t, xs, qs, rfl, h0, z0, ht, ha, hz, k⟩ := h
    have nd := c_smallest.nd
    refine ⟨_, (pss_cons (ps_set (i := 2) nd rfl (by first | exact Or.inl rfl | exact Or.inr rfl) (pv 0))
      (pss_cons (ps_for PassesOwn.never rfl (pi_tup (pv 1)) (pg_name (i := 3) nd rfl (by first | exact Or.inl rfl | exact Or.inr rfl))
        (pss_one (ps_if (pt_cmpR op_lt (pe_fn Fcompare (hr.mono (by decide)) (pa_cons (pv 3) (pa_cons (pv 2) pa_nil))) pe_int (nomark _))
          (pss_one (ps_set (i := 2) nd rfl (by first | exact Or.inl rfl | exact Or.inr rfl) (pv 3)))
          pss_nil)))
      (pss_one (ps_ret (pv 2))))), ?_⟩
    show (_ : TS) _ [some _, some _, none, none] _
    try dsimp only [cxOf, Cx.nox]
    walk_at "go"
    refine r_forT rfl ht (fun i σ H1 => H1 = H ∧ ∃ fv u, σ = [some v0, some (.ref t), some fv, u] ∧ Am K H fv (minQ q0 (qs.take i))) ⟨rfl, _, _, rfl, h0⟩ (fun i σ H1 _ h => h.1 ▸ ht) ?_ ?_
    · rintro i x σ H1 hx ⟨rfl, fv, u, rfl, hf⟩
      obtain ⟨q, hq, hxq⟩ := ha.at_ hx
      have sf : Sz 4000 (minQ q0 (qs.take i)) := minQ_mem z0 fun y hy => hz y (List.mem_of_mem_take hy)
      walk_at "go"
      refine ⟨_, _, q, _, rfl, hxq, hf, hz q (List.mem_of_getElem? hq), sf, ?_⟩
      walk_at "go"
      refine r_dec (fun hlt => ?_) (fun hge => ?_)
      · walk_at "go"
        refine ⟨rfl, _, _, rfl, ?_⟩
        unfold minQ
        rw [fold_take hq]
        show Am K H1 x (if q < minQ q0 (qs.take i) then q else minQ q0 (qs.take i))
        rw [if_pos ((cmp_lt _ _).mp hlt)]
        exact hxq
      · walk_at "go"
        refine ⟨rfl, _, _, rfl, ?_⟩
        unfold minQ
        rw [fold_take hq]
        show Am K H1 fv (if q < minQ q0 (qs.take i) then q else minQ q0 (qs.take i))
        rw [if_neg fun z => hge ((cmp_lt _ _).mpr z)]
        exact hf
    · rintro σ H1 ⟨rfl, fv, u, rfl, hf⟩
      walk_at "go"
      rw [ha.1, List.take_length] at hf
      exact k _ _ Ext.refl hf
abbrev s_largest : Stmt := top 23
theorem c_largest : FnScope ["first", "others", "found", "other"] ["first", "others"] (defScope s_largest) := ⟨rfl, rfl, rfl, by decide +kernel, rfl, by decide +kernel, by decide +kernel⟩
theorem f_largest (F : FunD K "largest" "largest" (defArgs s_largest) (defBody s_largest) (defScope s_largest) [] [] f fd) (hm : mg "largest" = some (.ref f)) (Fcompare : Fn P w K mg base 1 "compare" (spCompare K)) : Fn P w K mg base 2 "largest" (spMin maxQ K) := by
  refine fn_star (ps := ["first"]) (pv := "others") (sp := spMinT maxQ K) F hm c_largest (fun _ _ _ _ _ _ us rest hl => match us, rest, hl with | [_], [], _ => rfl | [_], _ :: _, _ => rfl) (fun cdv A outer s H vs Q E hr h => ?_) ?himp
  case himp =>
    exact spMin_imp
  · obtain ⟨v0, q0, t, xs, qs, rfl, h0, z0, ht, ha, hz, k⟩ := h
    have nd := c_largest.nd
    refine ⟨_, (pss_cons (ps_set (i := 2) nd rfl (by first | exact Or.inl rfl | exact Or.inr rfl) (pv 0))
      (pss_cons (ps_for PassesOwn.never rfl (pi_tup (pv 1)) (pg_name (i := 3) nd rfl (by first | exact Or.inl rfl | exact Or.inr rfl))
        (pss_one (ps_if (pt_cmpR op_gt (pe_fn Fcompare (hr.mono (by decide)) (pa_cons (pv 3) (pa_cons (pv 2) pa_nil))) pe_int (nomark _))
          (pss_one (ps_set (i := 2) nd rfl (by first | exact Or.inl rfl | exact Or.inr rfl) (pv 3)))
          pss_nil)))
      (pss_one (ps_ret (pv 2))))), ?_⟩
    show (_ : TS) _ [some _, some _, none, none] _
    try dsimp only [cxOf, Cx.nox]
    walk_at "go"
    refine r_forT rfl ht (fun i σ H1 => H1 = H ∧ ∃ fv u, σ = [some v0, some (.ref t), some fv, u] ∧ Am K H fv (maxQ q0 (qs.take i))) ⟨rfl, _, _, rfl, h0⟩ (fun i σ H1 _ h => h.1 ▸ ht) ?_ ?_
    · rintro i x σ H1 hx ⟨rfl, fv, u, rfl, hf⟩
      obtain ⟨q, hq, hxq⟩ := ha.at_ hx
      have sf : Sz 4000 (maxQ q0 (qs.take i)) := maxQ_mem z0 fun y hy => hz y (List.mem_of_mem_take hy)
      walk_at "go"
      refine ⟨_, _, q, _, rfl, hxq, hf, hz q (List.mem_of_getElem? hq), sf, ?_⟩
      walk_at "go"
      refine r_dec (fun hlt => ?_) (fun hge => ?_)
      · walk_at "go"
        refine ⟨rfl, _, _, rfl, ?_⟩
        unfold maxQ
        rw [fold_take hq]
        show Am K H1 x (if maxQ q0 (qs.take i) < q then q else maxQ q0 (qs.take i))
        rw [if_pos ((cmp_gt _ _).mp hlt)]
        exact hxq
      · walk_at "go"
        refine ⟨rfl, _, _, rfl, ?_⟩
        unfold maxQ
        rw [fold_take hq]
        show Am K H1 fv (if maxQ q0 (qs.take i) < q then q else maxQ q0 (qs.take i))
        rw [if_neg fun z => hge ((cmp_gt _ _).mpr z)]
        exact hf
    · rintro σ H1 ⟨rfl, fv, u, rfl, hf⟩
      walk_at "go"
      rw [ha.1, List.take_length] at hf
      exact k _ _ Ext.refl hf
def spPair (K : PySem.W.Frag) : Sp := fun vs H Q _ => ∃ a b : Nat, vs = [.int (a : Int), .int (b : Int)] ∧ 0 < b ∧ a < 2 ^ 8900 ∧ b < 2 ^ 8900 ∧ RetAm K H Q (mkRat (a : Int) b)
end
end Yk

set_option maxHeartbeats 1000000
namespace Yk
open PySem PySem.Spec PyProof.Rows L2

section
variable {P : Program} {w : World} {K : PySem.W.Frag} {mg : Str → Option Value} {base : Heap} {f : Addr} {fd : FuncData}
theorem szd {n : Nat} {q : Rat} (h : Sz n q) : (q.den : Int).natAbs < 2 ^ n := h.2
theorem mulz {m n : Nat} {i j : Int} (hi : i.natAbs < 2 ^ m) (hj : j.natAbs < 2 ^ n) : (i * j).natAbs < 2 ^ (m + n) := wide_lt hi hj
/-- amounts are not below nought: their first numbers are natural -/
theorem num_nat {q : Rat} (h : 0 ≤ q) : q.num = ((q.num.toNat : Nat) : Int) := (Int.toNat_of_nonneg (num_nn h)).symm
theorem pos_num {q : Rat} (h : 0 < q) : 0 < q.num.toNat := by have := num_pos' h; omega
theorem mk_add (p q : Rat) : mkRat (p.num * q.den + q.num * p.den) (p.den * q.den) = p + q := by rw [Rat.add_def, Rat.normalize_eq_mkRat]
theorem mk_mul (p q : Rat) : mkRat (p.num * q.num) (p.den * q.den) = p * q := by rw [Rat.mul_def, Rat.normalize_eq_mkRat]
def spMore (K : PySem.W.Frag) : Sp := fun vs H Q _ => ∃ v1 v2 p q, vs = [v1, v2] ∧ Am K H v1 p ∧ Am K H v2 q ∧ Sz 4000 p ∧ Sz 4000 q ∧ Q (.bl (decide (q < p))) H
/-- two amounts, of at most 2000 bits, to one -/
def sp2 (ok : Rat → Rat → Prop) (F : Rat → Rat → Rat) (K : PySem.W.Frag) : Sp := fun vs H Q _ => ∃ v1 v2 p q, vs = [v1, v2] ∧ Am K H v1 p ∧ Am K H v2 q ∧ Sz 4000 p ∧ Sz 4000 q ∧ 0 ≤ p ∧ 0 ≤ q ∧ ok p q ∧ RetAm K H Q (F p q)
theorem mk_quot {p q : Rat} (hq : 0 < q) : mkRat (p.num * q.den) (p.den * q.num.toNat) = p / q := by
  obtain ⟨i1, i2⟩ := inv_parts hq
  have e : q⁻¹.den = q.num.toNat := by omega
  rw [Rat.div_def, ← mk_mul, i1, e]
end
end Yk

set_option maxHeartbeats 1000000
namespace Yk
open PySem PySem.Spec PyProof.Rows L2

section
variable {P : Program} {w : World} {K : PySem.W.Frag} {mg : Str → Option Value} {base : Heap} {f : Addr} {fd : FuncData}
def lmin (p q : Rat) : Rat := if q < p then q else p
def lmax (p q : Rat) : Rat := if q < p then p else q
def spOrder (K : PySem.W.Frag) : Sp := fun vs H Q _ => ∃ v1 v2 p q, vs = [v1, v2] ∧ Am K H v1 p ∧ Am K H v2 q ∧ Sz 4000 p ∧ Sz 4000 q ∧ Q (.int (cmpQ p q)) H
theorem sumQ_nn : ∀ {qs : List Rat} {z : Rat}, 0 ≤ z → (∀ q ∈ qs, 0 ≤ q) → 0 ≤ qs.foldl (· + ·) z
  | [], z, h, _ => h
  | q :: r, z, h, hq => sumQ_nn (qs := r) (z := z + q) (Rat.add_nonneg h (hq q List.mem_cons_self)) fun x hx => hq x (List.mem_cons_of_mem _ hx)
def spSum (K : PySem.W.Frag) : Sp := fun vs H Q _ => ∃ t xs qs m, vs = [V.ref t] ∧ SqL K H t xs ∧ Ams K H xs qs ∧ (∀ q ∈ qs, Sz m q) ∧ (∀ q ∈ qs, 0 ≤ q) ∧ m ≤ 4000 ∧ 1 + qs.length * (m + 1) ≤ 4000 ∧ RetAm K H Q (sumQ qs)
end
end Yk

set_option maxHeartbeats 2000000
namespace Yk
open PySem PySem.Spec PyProof.Rows L2

section
variable {P : Program} {w : World} {K : PySem.W.Frag} {mg : Str → Option Value} {base : Heap} {f : Addr} {fd : FuncData}
theorem lst_upd {K : PySem.W.Frag} {H : Hp} {a b : Addr} {o : HO} {xs l : List V} (h : SqL K H a xs) (hb : H b = some (.lst l)) (hd : xs ≠ l) : SqL K (upd H b o) a xs := by
  rcases h with (h | ⟨u, h⟩) | h
  · exact .inl (.inl (by rw [upd_ne (fun z => hd (by rw [z, hb] at h; cases h; rfl))]; exact h))
  · exact .inl (.inr ⟨u, by rw [upd_ne (fun z => by rw [z, hb] at h; cases h)]; exact h⟩)
  · exact .inr h
theorem ns_ne (ns : List Int) (it : Addr) (l : List V) : ns.map V.int ≠ .ref it :: l := by
  cases ns with
  | nil => intro h; cases h
  | cons n r => intro h; cases h
theorem cpow {i : Int} {j : Int} (h0 : 0 ≤ j) (h1 : j ≤ 1000000) (h : i.natAbs < 2 ^ 64) : CPow i j := ⟨h0, h1, h⟩
theorem cdivc (i : Int) : CDivW i 97 := ⟨by decide, by decide +kernel⟩
def spDraw (K : PySem.W.Frag) : Sp := fun vs H Q _ => ∃ (b : Bag) (n : Int), vs = [.ref b.a, .int n] ∧ 0 < n ∧ n < 2 ^ 400 ∧ BagAt K H b ∧ ∀ (x : Int) H', 0 ≤ x → x < n → BagAt K H' b → Ext [b.a] H H' → Q (.int x) H'
theorem at_map {ns : List Int} {i : Nat} (h : i < ns.length) : atI (ns.map V.int) (i : Int) = some (.int ns[i]) := atI_nat (by rw [List.getElem?_map, List.getElem?_eq_getElem h] <;> rfl)
theorem bag_ex {K : PySem.W.Frag} {H : Hp} {b it : Addr} {ns : List Int} {pos : Nat} {rest seed cnt : Int} (hb : H b = some (.lst [.ref it, .int (pos : Int), .int rest, .int seed, .int cnt])) (hi : SqL K H it (ns.map V.int)) (hns : ns.length ≤ 63)
    (hp : pos ≤ ns.length) (hr : 0 ≤ rest) (h0 : 0 ≤ seed) (h1 : seed < 2147483629) : BagAt K H ⟨b, it, ns⟩ := ⟨_, hb, hi, hns, pos, rest, seed, cnt, rfl, hp, hr, h0, h1⟩
theorem modI (a : Int) {n : Int} (h : 0 < n) : 0 ≤ a % n ∧ a % n < n := ⟨Int.emod_nonneg a (by omega), Int.emod_lt_of_pos a h⟩
end
end Yk

set_option maxHeartbeats 2000000
namespace Yk
open PySem PySem.Spec PyProof.Rows L2

section
variable {P : Program} {w : World} {K : PySem.W.Frag} {mg : Str → Option Value} {base : Heap} {f : Addr} {fd : FuncData}
theorem cut_all {xs : List V} (h : xs.length ≤ 63) : cutV xs none (some 63) = xs := by
  unfold cutV
  rw [show HT.sIx xs.length 0 none = 0 from rfl, show HT.sIx xs.length xs.length (some 63) = min 63 xs.length from HT.sIx_nat _ _ 63, List.drop_zero, Nat.min_eq_right h]
  simp
def spBag (K : PySem.W.Frag) : Sp := fun vs H Q _ => ∃ (a : Addr) (ns : List Int), vs = [.ref a] ∧ SqL K H a (ns.map V.int) ∧ ns.length ≤ 63 ∧ ∀ (b : Bag) H', H b.a = none → Ext [] H H' → BagAt K H' b → Q (.ref b.a) H'
/-- one of a row of things: what is told of all of them is told of it -/
def spOf (K : PySem.W.Frag) : Sp := fun vs H Q _ => ∃ (b : Bag) (l : Addr) (xs : List V), vs = [.ref b.a, .ref l] ∧ BagAt K H b ∧ SqL K H l xs ∧ b.a ≠ l ∧ 0 < xs.length ∧ xs.length ≤ 4000 ∧ ∀ (i : Nat) (x : V) H', xs[i]? = some x → BagAt K H' b → Ext [b.a] H H' → Q x H'
abbrev s_law_of : Stmt := top 53
theorem c_law_of : FnScope ["_law_bag_here", "_law_things"] ["_law_bag_here", "_law_things"] (defScope s_law_of) := ⟨rfl, rfl, rfl, by decide +kernel, rfl, by decide +kernel, by decide +kernel⟩
theorem f_law_of (F : FunD K "_law_of" "_law_of" (defArgs s_law_of) (defBody s_law_of) (defScope s_law_of) [] [] f fd) (hm : mg "_law_of" = some (.ref f)) (T : Bt mg) (F_law_draw : Fn P w K mg base 1 "_law_draw" (spDraw K)) : Fn P w K mg base 2 "_law_of" (spOf K) := by
  refine fn_def F hm c_law_of (fun vs H Q E h => ?_) (fun _ _ _ _ _ _ us hl => match us, hl with | [_, _], _ => rfl) (fun cdv A outer s H vs Q E hr h => ?_)
  · obtain ⟨b, l, xs, rfl, _⟩ := h
    rfl
  · obtain ⟨b, l, xs, rfl, hb, hl, hne, h0, h4, k⟩ := h
    have nd := c_law_of.nd
    refine ⟨_, (pss_one (ps_ret (pe_ix ix_list (pv 1) (pe_fn F_law_draw (hr.mono (by decide)) (pa_cons (pv 0) (pa_cons (pe_callB cr_len (by rfl) T.len (by decide +kernel) (pa_cons (pv 1) pa_nil)) pa_nil))) (fun _ _ => rfl)))), ?_⟩
    show (_ : TS) _ [some _, some _] _
    try dsimp only [cxOf, Cx.nox]
    walk_at "go"
    refine ⟨b, _, rfl, by omega, Int.lt_of_le_of_lt (by omega : (xs.length : Int) ≤ 4000) (by decide), hb, fun x H' x0 x1 hb' e => ?_⟩
    have hl' : SqL K H' l xs := lstX e hl (by simpa using fun z => hne z.symm)
    have hx : x.toNat < xs.length := by omega
    refine r_ixL hl' (v := xs[x.toNat]) ?_ (k x.toNat _ H' (List.getElem?_eq_getElem hx) hb' e)
    have e2 : x = ((x.toNat : Nat) : Int) := by omega
    exact at_of e2 (List.getElem?_eq_getElem hx)
end
end Yk

set_option maxHeartbeats 4000000
namespace Yk
open PySem PySem.Spec PyProof.Rows L2

section
variable {P : Program} {w : World} {K : PySem.W.Frag} {mg : Str → Option Value} {base : Heap} {f : Addr} {fd : FuncData}
theorem of_am {K : PySem.W.Frag} {H : Hp} {b : Bag} {l : Addr} {xs : List V} {qs : List Rat} {Q : VK} {E : XK} (hb : BagAt K H b) (hl : SqL K H l xs) (hne : b.a ≠ l) (ha : Ams K H xs qs) (h0 : 0 < qs.length) (h4 : qs.length ≤ 4000)
    (k : ∀ v q H', q ∈ qs → Am K H' v q → BagAt K H' b → Ext [b.a] H H' → Q v H') : spOf K [.ref b.a, .ref l] H Q E :=
  ⟨b, l, xs, rfl, hb, hl, hne, by rw [ha.1]; exact h0, by rw [ha.1]; exact h4, fun i x H' hx hb' e => by
    obtain ⟨q, hq, hm⟩ := ha.at_ hx
    exact k x q H' (List.mem_of_getElem? hq) (hm.b hb e) hb' e⟩
theorem mulp {i j a b : Int} (i0 : 0 ≤ i) (i1 : i < a) (j0 : 0 ≤ j) (j1 : j < b) (ha : a ≤ 2 ^ 400) (hb : b ≤ 2 ^ 400) : CMulW i j := by
  refine cmul (m := 401) (n := 401) ?_ ?_ (by decide) (by decide) (by decide)
  · have : (2 : Nat) ^ 400 < 2 ^ 401 := by decide
    have : ((2 : Nat) ^ 400 : Int) = 2 ^ 400 := by norm_cast
    omega
  · have : (2 : Nat) ^ 400 < 2 ^ 401 := by decide
    have : ((2 : Nat) ^ 400 : Int) = 2 ^ 400 := by norm_cast
    omega
theorem e10 : (10 : Int) ^ Int.toNat 10 = 10000000000 := by decide
theorem e4 : (10 : Int) ^ Int.toNat 4 = 10000 := by decide
theorem e9 : (10 : Int) ^ Int.toNat 9 = 1000000000 := by decide
def spGreat (K : PySem.W.Frag) : Sp := fun vs H Q _ => ∃ b, vs = [.ref b.a] ∧ BagAt K H b ∧ ∀ (x : Int) H', 0 ≤ x → x < 2 ^ 114 → BagAt K H' b → Ext [b.a] H H' → Q (.int x) H'
theorem pair_am {a b : Nat} {m : Nat} (ha : a < 2 ^ m) (hb : 0 < b) (hb2 : b < 2 ^ m) : Sz m (mkRat (a : Int) b) ∧ 0 ≤ mkRat (a : Int) b := ⟨sz_mk hb rfl (by simpa using ha) hb2, mk_nn a b⟩
def spAmt (K : PySem.W.Frag) : Sp := fun vs H Q _ => ∃ b, vs = [.ref b.a] ∧ BagAt K H b ∧ ∀ v q H', Am K H' v q → 0 ≤ q → Sz 114 q → BagAt K H' b → Ext [b.a] H H' → Q v H'
/-- a bit: a whole number of twelfths, at most 12 -/
def spBit (K : PySem.W.Frag) : Sp := fun vs H Q _ => ∃ b, vs = [.ref b.a] ∧ BagAt K H b ∧ ∀ v (n d : Nat) H', n ≤ 12 → 0 < d → d ∣ 12 → Am K H' v (mkRat (n : Int) d) → BagAt K H' b → Ext [b.a] H H' → Q v H'
theorem spBit_amt {H : Hp} {b : Bag} {Q : VK} {E : XK} (hb : BagAt K H b) (k : ∀ v q H', Am K H' v q → 0 ≤ q → Sz 114 q → BagAt K H' b → Ext [b.a] H H' → Q v H') : spBit K [.ref b.a] H Q E :=
  ⟨b, rfl, hb, fun v n d H' hn d0 hd a b' e => by
    obtain ⟨z1, z2⟩ := pair_am (m := 114) (Nat.lt_of_le_of_lt hn (by decide)) d0 (Nat.lt_of_le_of_lt (Nat.le_of_dvd (by decide) hd) (by decide))
    exact k v _ H' a z2 z1 b' e⟩
theorem sz_lit {n : Int} {d m : Nat} (hd : d ≠ 0) (hc : n.natAbs.Coprime d) (h1 : n.natAbs < 2 ^ m) (h2 : d < 2 ^ m) : Sz m ⟨n, d, hd, hc⟩ := ⟨h1, h2⟩
theorem nn_lit {n : Int} {d : Nat} (hd : d ≠ 0) (hc : n.natAbs.Coprime d) (h : 0 ≤ n) : (0 : Rat) ≤ ⟨n, d, hd, hc⟩ := Rat.num_nonneg.mp h
def nine : List Rat := [⟨0, 1, by decide, by decide⟩, ⟨1, 1, by decide, by decide⟩, ⟨1000, 1, by decide, by decide⟩, ⟨1, 12, by decide, by decide⟩, ⟨999, 1, by decide, by decide⟩, ⟨1001, 1, by decide, by decide⟩, ⟨12001, 12, by decide, by decide⟩, ⟨1, 13, by decide, by decide⟩, ⟨2, 1, by decide, by decide⟩]
theorem nine_all : ∀ q ∈ nine, 0 ≤ q ∧ Sz 114 q := by
  intro q hq
  unfold nine at hq
  simp only [List.mem_cons, List.not_mem_nil, or_false] at hq
  rcases hq with rfl | rfl | rfl | rfl | rfl | rfl | rfl | rfl | rfl <;> exact ⟨nn_lit _ _ (by decide), sz_lit _ _ (by decide) (by decide)⟩
end
end Yk

set_option maxHeartbeats 4000000
namespace Yk
open PySem PySem.Spec PyProof.Rows L2

section
variable {P : Program} {w : World} {K : PySem.W.Frag} {mg : Str → Option Value} {base : Heap} {f : Addr} {fd : FuncData}
theorem perm_erase : ∀ {xs : List V} {i : Nat} (h : i < xs.length), (xs[i] :: xs.eraseIdx i).Perm xs
  | a :: r, 0, _ => List.Perm.refl _
  | a :: r, i + 1, h => ((List.Perm.swap a _ _)).trans ((perm_erase (xs := r) (i := i) (by simpa using h)).cons a)
/-- a new list with the same things -/
def spMixed (K : PySem.W.Frag) : Sp := fun vs H Q _ => ∃ (b : Bag) (l : Addr) (xs : List V), vs = [.ref b.a, .ref l] ∧ BagAt K H b ∧ SqL K H l xs ∧ b.a ≠ l ∧ xs.length ≤ 4000 ∧ ∀ (p : Addr) (ys : List V) H', ys.Perm xs → H p = none → H' p = some (.lst ys) → BagAt K H' b → Ext [b.a] H H' → Q (.ref p) H'
end
end Yk

set_option maxHeartbeats 4000000
namespace Yk
open PySem PySem.Spec PyProof.Rows L2

section
variable {P : Program} {w : World} {K : PySem.W.Frag} {mg : Str → Option Value} {base : Heap} {f : Addr} {fd : FuncData}
/-- two rows of one length, from three to six -/
theorem row_cases {C : List V → List Rat → Prop} {xs : List V} {qs : List Rat} (hl : xs.length = qs.length) (h3 : 3 ≤ qs.length) (h6 : qs.length ≤ 6)
    (c3 : ∀ v0 v1 v2 q0 q1 q2, C [v0, v1, v2] [q0, q1, q2]) (c4 : ∀ v0 v1 v2 v3 q0 q1 q2 q3, C [v0, v1, v2, v3] [q0, q1, q2, q3])
    (c5 : ∀ v0 v1 v2 v3 v4 q0 q1 q2 q3 q4, C [v0, v1, v2, v3, v4] [q0, q1, q2, q3, q4]) (c6 : ∀ v0 v1 v2 v3 v4 v5 q0 q1 q2 q3 q4 q5, C [v0, v1, v2, v3, v4, v5] [q0, q1, q2, q3, q4, q5]) : C xs qs := by
  match xs, qs, hl, h3, h6 with
  | [], qs, h, h3, _ => simp at h; omega
  | [_], qs, h, h3, _ => simp at h; omega
  | [_, _], qs, h, h3, _ => simp at h; omega
  | [v0, v1, v2], [q0, q1, q2], _, _, _ => exact c3 ..
  | [v0, v1, v2, v3], [q0, q1, q2, q3], _, _, _ => exact c4 ..
  | [v0, v1, v2, v3, v4], [q0, q1, q2, q3, q4], _, _, _ => exact c5 ..
  | [v0, v1, v2, v3, v4, v5], [q0, q1, q2, q3, q4, q5], _, _, _ => exact c6 ..
  | _ :: _ :: _ :: _ :: _ :: _ :: _ :: _, _ :: _ :: _ :: _ :: _ :: _ :: _ :: _, _, _, h => simp at h; try omega
def spSums (K : PySem.W.Frag) : Sp := fun vs H Q _ => ∃ r xs qs, vs = [V.ref r] ∧ SqL K H r xs ∧ Ams K H xs qs ∧ 3 ≤ qs.length ∧ qs.length ≤ 6 ∧ (∀ q ∈ qs, Sz 114 q) ∧ RetAm K H Q (sumQ qs)
def spEnds (K : PySem.W.Frag) : Sp := fun vs H Q _ => ∃ r xs q0 qs, vs = [V.ref r] ∧ SqL K H r xs ∧ Ams K H xs (q0 :: qs) ∧ 3 ≤ (q0 :: qs).length ∧ (q0 :: qs).length ≤ 6 ∧ (∀ q ∈ q0 :: qs, Sz 114 q) ∧
  ∀ p v1 v2 H', H p = none → H' p = some (.lst [v1, v2]) → Am K H' v1 (minQ q0 qs) → Am K H' v2 (maxQ q0 qs) → Ext [] H H' → Q (.ref p) H'
def endsK (K : PySem.W.Frag) (H : Hp) (Q : VK) (qs : List Rat) : Prop := ∀ p v1 v2 H', H p = none → H' p = some (.lst [v1, v2]) → Am K H' v1 (minQ (qs.headD 0) qs.tail) → Am K H' v2 (maxQ (qs.headD 0) qs.tail) → Ext [] H H' → Q (.ref p) H'
end
end Yk

set_option maxHeartbeats 4000000
namespace Yk
open PySem PySem.Spec PyProof.Rows L2

section
variable {P : Program} {w : World} {K : PySem.W.Frag} {mg : Str → Option Value} {base : Heap} {f : Addr} {fd : FuncData}
/-! rows by their sizes, in any order -/
inductive Szs : Nat → List Rat → Prop where
  | nil : Szs 0 []
  | cons {m B : Nat} {q : Rat} {ps : List Rat} (h : Sz m q) (r : Szs B ps) : Szs (B + (m + 1)) (q :: ps)
theorem Szs.perm {l l' : List Rat} (p : l.Perm l') : ∀ {B : Nat}, Szs B l → Szs B l' := by
  induction p with
  | nil => exact fun h => h
  | cons x _ ih =>
    intro B h
    cases h with
    | cons h r => exact .cons h (ih r)
  | swap x y l =>
    intro B h
    cases h with
    | cons h r =>
      cases r with
      | cons h2 r =>
        rename_i m1 m2 B2
        have := Szs.cons h2 (Szs.cons h r)
        rw [show B2 + (m2 + 1) + (m1 + 1) = B2 + (m1 + 1) + (m2 + 1) by omega]
        exact this
  | trans _ _ ih1 ih2 => exact fun h => ih2 (ih1 h)
theorem Szs.all : ∀ {l : List Rat} {m : Nat}, (∀ q ∈ l, Sz m q) → Szs (l.length * (m + 1)) l
  | [], m, _ => by simpa using Szs.nil
  | q :: r, m, h => by
    have := Szs.cons (h q List.mem_cons_self) (Szs.all (l := r) (m := m) fun x hx => h x (List.mem_cons_of_mem _ hx))
    rw [List.length_cons, Nat.add_mul, Nat.one_mul]
    exact this
def opR (g : Rat → Rat → Rat) (z : Rat) (l : List Rat) : Rat := l.foldr g z
theorem opR_perm {g : Rat → Rat → Rat} {z : Rat} (hg : ∀ a b c, g a (g b c) = g b (g a c)) {l l' : List Rat} (p : l.Perm l') : opR g z l = opR g z l' := by
  induction p with
  | nil => rfl
  | cons x _ ih => exact congrArg (g x) ih
  | swap x y l => exact hg _ _ _
  | trans _ _ h1 h2 => exact h1.trans h2
theorem sumQ_R (l : List Rat) : sumQ l = opR (· + ·) 0 l := by
  have h : ∀ (l : List Rat) (z : Rat), l.foldl (· + ·) z = z + opR (· + ·) 0 l := by
    intro l
    induction l with
    | nil => intro z; show z = z + 0; rw [Rat.add_zero]
    | cons a r ih =>
      intro z
      show r.foldl (· + ·) (z + a) = z + (a + opR (· + ·) 0 r)
      rw [ih, Rat.add_assoc]
  unfold sumQ
  rw [h, Rat.zero_add]
theorem sumQ_perm {l l' : List Rat} (p : l.Perm l') : sumQ l = sumQ l' := by
  rw [sumQ_R, sumQ_R]
  exact opR_perm (fun a b c => by rw [← Rat.add_assoc, Rat.add_comm a b, Rat.add_assoc]) p
def prodQ (qs : List Rat) : Rat := qs.foldl (· * ·) 1
theorem prodQ_R (l : List Rat) : prodQ l = opR (· * ·) 1 l := by
  have h : ∀ (l : List Rat) (z : Rat), l.foldl (· * ·) z = z * opR (· * ·) 1 l := by
    intro l
    induction l with
    | nil => intro z; show z = z * 1; rw [Rat.mul_one]
    | cons a r ih =>
      intro z
      show r.foldl (· * ·) (z * a) = z * (a * opR (· * ·) 1 r)
      rw [ih, Rat.mul_assoc]
  unfold prodQ
  rw [h, Rat.one_mul]
theorem Ams.erase {H : Hp} {xs : List V} {qs : List Rat} (h : Ams K H xs qs) (i : Nat) : Ams K H (xs.eraseIdx i) (qs.eraseIdx i) := by
  refine ⟨by rw [List.length_eraseIdx, List.length_eraseIdx, h.1], fun j v q a b => ?_⟩
  rw [List.getElem?_eraseIdx] at a b
  split at a
  · rename_i hj
    rw [if_pos hj] at b
    exact h.2 j v q a b
  · rename_i hj
    rw [if_neg hj] at b
    exact h.2 (j + 1) v q a b
theorem Ams.app {H : Hp} {xs ys : List V} {qs rs : List Rat} (h : Ams K H xs qs) (r : Ams K H ys rs) : Ams K H (xs ++ ys) (qs ++ rs) := by
  refine ⟨by rw [List.length_append, List.length_append, h.1, r.1], fun j v q a b => ?_⟩
  by_cases hj : j < xs.length
  · rw [List.getElem?_append_left hj] at a
    rw [List.getElem?_append_left (by rw [← h.1]; exact hj)] at b
    exact h.2 j v q a b
  · rw [List.getElem?_append_right (by omega)] at a
    rw [List.getElem?_append_right (by rw [← h.1]; omega), ← h.1] at b
    exact r.2 _ v q a b
theorem Ams.take {H : Hp} {xs : List V} {qs : List Rat} (h : Ams K H xs qs) (n : Nat) : Ams K H (xs.take n) (qs.take n) := by
  refine ⟨by rw [List.length_take, List.length_take, h.1], fun j v q a b => ?_⟩
  rw [List.getElem?_take] at a b
  split at a
  · rename_i hj
    rw [if_pos hj] at b
    exact h.2 j v q a b
  · cases a
theorem Ams.drop {H : Hp} {xs : List V} {qs : List Rat} (h : Ams K H xs qs) (n : Nat) : Ams K H (xs.drop n) (qs.drop n) := by
  refine ⟨by rw [List.length_drop, List.length_drop, h.1], fun j v q a b => ?_⟩
  rw [List.getElem?_drop] at a b
  exact h.2 _ v q a b
theorem permR : ∀ {xs : List Rat} {i : Nat} (h : i < xs.length), (xs[i] :: xs.eraseIdx i).Perm xs
  | a :: r, 0, _ => List.Perm.refl _
  | a :: r, i + 1, h => ((List.Perm.swap a _ _)).trans ((permR (xs := r) (i := i) (by simpa using h)).cons a)
theorem permI (xs : List Rat) (z : Rat) (k : Nat) : (xs.take k ++ [z] ++ xs.drop k).Perm (z :: xs) := by
  have h : (xs.take k ++ z :: xs.drop k).Perm (z :: (xs.take k ++ xs.drop k)) := List.perm_middle
  rw [List.take_append_drop] at h
  rw [List.append_assoc]
  exact h
/-- a pair put together: its value, its size -/
structure Join (g : Rat → Rat → Rat) (z : Rat) : Prop where
  swap : ∀ a b c, g a (g b c) = g b (g a c)
  assoc : ∀ a b c, g (g a b) c = g a (g b c)
  one : ∀ a, g a z = a
  sz : ∀ {m n : Nat} {a b : Rat}, Sz m a → Sz n b → Sz (m + n + 1) (g a b)
theorem join_add : Join (· + ·) 0 := ⟨fun a b c => by show a + (b + c) = b + (a + c); rw [← Rat.add_assoc, Rat.add_comm a b, Rat.add_assoc], fun a b c => Rat.add_assoc a b c, fun a => Rat.add_zero a, sz_add⟩
theorem join_mul : Join (· * ·) 1 := ⟨fun a b c => by show a * (b * c) = b * (a * c); rw [← Rat.mul_assoc, Rat.mul_comm a b, Rat.mul_assoc], fun a b c => Rat.mul_assoc a b c, fun a => Rat.mul_one a, fun h1 h2 => (sz_mul h1 h2).mono (by omega)⟩
theorem Join.two {g : Rat → Rat → Rat} {z : Rat} (J : Join g z) (a b : Rat) (l : List Rat) : opR g z (a :: b :: l) = opR g z (g a b :: l) := (J.assoc a b _).symm
theorem Join.sz2 {g : Rat → Rat → Rat} {z : Rat} (J : Join g z) {a b : Rat} {l : List Rat} {B : Nat} (h : Szs B (a :: b :: l)) : Szs B (g a b :: l) := by
  cases h with
  | cons h1 r =>
    cases r with
    | cons h2 r =>
      rename_i m1 m2 B2
      have := Szs.cons (J.sz h1 h2) r
      rw [show B2 + (m2 + 1) + (m1 + 1) = B2 + (m1 + m2 + 1 + 1) by omega]
      exact this
theorem Szs.hd {B : Nat} {a : Rat} {l : List Rat} (h : Szs B (a :: l)) : Sz B a := by
  cases h with
  | cons h1 r => exact h1.mono (by omega)
theorem Szs.tl {B : Nat} {a : Rat} {l : List Rat} (h : Szs B (a :: l)) : ∃ B', B' ≤ B ∧ Szs B' l := by
  cases h with
  | cons h1 r => exact ⟨_, by omega, r⟩
def gop (c : Bool) : Rat → Rat → Rat := if c then (· + ·) else (· * ·)
def gun (c : Bool) : Rat := if c then 0 else 1
theorem join_of (c : Bool) : Join (gop c) (gun c) := by
  cases c
  · exact join_mul
  · exact join_add
def spGrouped (K : PySem.W.Frag) : Sp := fun vs H Q _ => ∃ (b : Bag) (r : Addr) (c : Bool) (xs : List V) (qs : List Rat), vs = [.ref b.a, .ref r, .bl c] ∧ BagAt K H b ∧ SqL K H r xs ∧ b.a ≠ r ∧ Ams K H xs qs ∧ 1 ≤ qs.length ∧ qs.length ≤ 6 ∧ (∀ q ∈ qs, Sz 114 q) ∧
  ∀ v H', Am K H' v (opR (gop c) (gun c) qs) → BagAt K H' b → Ext [b.a] H H' → Q v H'
end
end Yk

set_option maxHeartbeats 4000000
namespace Yk
open PySem PySem.Spec PyProof.Rows L2

/-- the same data, so deep -/
inductive Eqd (K : PySem.W.Frag) (H : Hp) : Nat → V → V → Prop where
  | non (n : Nat) : Eqd K H n .non .non
  | bl (n : Nat) (b : Bool) : Eqd K H n (.bl b) (.bl b)
  | int (n : Nat) (i : Int) : Eqd K H n (.int i) (.int i)
  | str (n : Nat) (z : Str) : Eqd K H n (.str z) (.str z)
  | tup {n : Nat} {a b : Addr} {xs ys : List V} (ha : SqT K H a xs) (hb : SqT K H b ys) (hl : xs.length = ys.length) (h4 : xs.length ≤ 4000) (h : ∀ (i : Nat) (x y : V), xs[i]? = some x → ys[i]? = some y → Eqd K H n x y) : Eqd K H (n + 1) (.ref a) (.ref b)
  | lst {n : Nat} {a b : Addr} {xs ys : List V} (ha : SqL K H a xs) (hb : SqL K H b ys) (hl : xs.length = ys.length) (h4 : xs.length ≤ 4000) (h : ∀ (i : Nat) (x y : V), xs[i]? = some x → ys[i]? = some y → Eqd K H n x y) : Eqd K H (n + 1) (.ref a) (.ref b)
theorem Eqd.x0 {K : PySem.W.Frag} {H H1 : Hp} (e : Ext [] H H1) {n : Nat} {v w : V} (h : Eqd K H n v w) : Eqd K H1 n v w := by
  induction h with
  | non n => exact .non n
  | bl n b => exact .bl n b
  | int n i => exact .int n i
  | str n z => exact .str n z
  | tup ha hb hl h4 _ ih => exact .tup (tup0 e ha) (tup0 e hb) hl h4 ih
  | lst ha hb hl h4 _ ih => exact .lst (lst0 e ha) (lst0 e hb) hl h4 ih
theorem Am.eqd {K : PySem.W.Frag} {H : Hp} {v w : V} {q : Rat} (n : Nat) (h1 : Am K H v q) (h2 : Am K H w q) : Eqd K H (n + 1) v w := by
  obtain ⟨a, rfl, h1⟩ := h1
  obtain ⟨b, rfl, h2⟩ := h2
  refine .tup h1 h2 rfl (by simp) fun i x y hx hy => ?_
  rw [hx] at hy
  cases hy
  match i, hx with
  | 0, hx => cases hx; exact .int _ _
  | 1, hx => cases hx; exact .int _ _
  | i + 2, hx => cases hx
def spLike (K : PySem.W.Frag) : Nat → Sp
  | 0 => fun _ _ _ _ => False
  | n + 1 => fun vs H Q _ => ∃ v1 v2, vs = [v1, v2] ∧ Eqd K H n v1 v2 ∧ ∀ H', Ext [] H H' → Q (.bl true) H'
section
variable {P : Program} {w : World} {K : PySem.W.Frag} {mg : Str → Option Value} {base : Heap} {f : Addr} {fd : FuncData}
end
end Yk

set_option maxHeartbeats 4000000
namespace Yk
open PySem PySem.Spec PyProof.Rows L2 TL

section
variable {P : Program} {w : World} {K : PySem.W.Frag} {mg : Str → Option Value} {base : Heap} {f : Addr} {fd : FuncData}
def spNumText (K : PySem.W.Frag) : Sp := fun vs H Q _ => ∃ n : Nat, vs = [.int (n : Int)] ∧ n < 2 ^ 1900 ∧ ∀ H', Ext [] H H' → Q (.str (nt n)) H'
def spIsNum (K : PySem.W.Frag) : Sp := fun vs H Q _ => ∃ n : Int, vs = [.int n] ∧ Q (.bl true) H
abbrev s_is_number : Stmt := top 3
theorem c_is_number : FnScope ["value"] ["value"] (defScope s_is_number) := ⟨rfl, rfl, rfl, by decide +kernel, rfl, by decide +kernel, by decide +kernel⟩
theorem f_is_number (F : FunD K "is_number" "is_number" (defArgs s_is_number) (defBody s_is_number) (defScope s_is_number) [] [] f fd) (hm : mg "is_number" = some (.ref f)) (T : Bt mg) : Fn P w K mg base 1 "is_number" (spIsNum K) := by
  refine fn_def F hm c_is_number (fun vs H Q E h => ?_) (fun _ _ _ _ _ _ us hl => match us, hl with | [_], _ => rfl) (fun cdv A outer s H vs Q E hr h => ?_)
  · obtain ⟨n, rfl, _⟩ := h
    rfl
  · obtain ⟨n, rfl, k⟩ := h
    have nd := c_is_number.nd
    refine ⟨_, (pss_one (ps_ret (pe_and (pe_callB call_isi (by rfl) T.isinstance (by decide +kernel) (pa_cons (pv 0) (pa_cons (pe_bltn (v := .ty "int") (by rfl) T.int (by decide +kernel) rfl) pa_nil))) (pe_one (pe_not (pe_callB call_isi (by rfl) T.isinstance (by decide +kernel) (pa_cons (pv 0) (pa_cons (pe_bltn (v := .ty "bool") (by rfl) T.bool (by decide +kernel) rfl) pa_nil)))))))), ?_⟩
    show (_ : TS) _ [some _] _
    try dsimp only [cxOf, Cx.nox]
    walk_at "run"
    exact k
def spIsAm (K : PySem.W.Frag) : Sp := fun vs H Q _ => ∃ (v : V) (q : Rat), vs = [v] ∧ Am K H v q ∧ 0 ≤ q ∧ Q (.bl true) H
abbrev s_is_amount : Stmt := top 14
theorem c_is_amount : FnScope ["value", "top", "bottom"] ["value"] (defScope s_is_amount) := ⟨rfl, rfl, rfl, by decide +kernel, rfl, by decide +kernel, by decide +kernel⟩
theorem f_is_amount (F : FunD K "is_amount" "is_amount" (defArgs s_is_amount) (defBody s_is_amount) (defScope s_is_amount) [] [] f fd) (hm : mg "is_amount" = some (.ref f)) (T : Bg mg) (Fis_number : Fn P w K mg base 1 "is_number" (spIsNum K)) : Fn P w K mg base 2 "is_amount" (spIsAm K) := by
  refine fn_def F hm c_is_amount (fun vs H Q E h => ?_) (fun _ _ _ _ _ _ us hl => match us, hl with | [_], _ => rfl) (fun cdv A outer s H vs Q E hr h => ?_)
  · obtain ⟨v, q, rfl, _⟩ := h
    rfl
  · obtain ⟨v, q, rfl, ⟨a, rfl, ha⟩, hq, k⟩ := h
    have nd := c_is_amount.nd
    refine ⟨_, (pss_cons (ps_if (PW.pt (pw_or (pt_not (pt_val (pe_callB call_isi (by rfl) T.isinstance (by decide +kernel) (pa_cons (pv 0) (pa_cons (pe_bltn (v := .ty "tuple") (by rfl) T.tuple (by decide +kernel) rfl) pa_nil))))) (pw_or1 (pt_cmpR op_ne (pe_callB cr_len (by rfl) T.len (by decide +kernel) (pa_cons (pv 0) pa_nil)) pe_int (nomark _)))))
        (pss_one (ps_ret pe_bl))
        pss_nil)
      (pss_cons (ps_asg (pv 0) (pg_tup rfl (pgs_cons (pg_name (i := 1) nd rfl (by first | exact Or.inl rfl | exact Or.inr rfl)) (pgs_cons (pg_name (i := 2) nd rfl (by first | exact Or.inl rfl | exact Or.inr rfl)) pgs_nil))))
      (pss_cons (ps_if (PW.pt (pw_or (pt_not (pt_val (pe_fn Fis_number (hr.mono (by decide)) (pa_cons (pv 1) pa_nil)))) (pw_or1 (pt_not (pt_val (pe_fn Fis_number (hr.mono (by decide)) (pa_cons (pv 2) pa_nil)))))))
        (pss_one (ps_ret pe_bl))
        pss_nil)
      (pss_one (ps_ret (pe_and (pe_cmpR op_ge (pv 1) pe_int (nomark _)) (pe_and (pe_cmpR op_ge (pv 2) pe_int (nomark _)) (pe_one (pe_cmpR op_eq (pe_callBfun cr_gcd (by rfl) T.gcd (pa_cons (pv 1) (pa_cons (pv 2) pa_nil))) pe_int (nomark _)))))))))), ?_⟩
    show (_ : TS) _ [some _, none, none] _
    try dsimp only [cxOf, Cx.nox]
    have hn := num_nn hq
    have hd := q.den_pos
    walk_at "run"
    refine ⟨_, rfl, ?_⟩
    walk_at "run"
    refine ⟨_, rfl, ?_⟩
    walk_at "run"
    refine r_true (decide_eq_true hn) ?_
    walk_at "run"
    refine r_true (decide_eq_true (by omega)) ?_
    walk_at "run"
    have hc : Nat.gcd q.num.natAbs (q.den : Int).natAbs = 1 := q.reduced
    rw [hc]
    show Q (.bl (decide (V.int 1 = V.int 1))) H
    rw [decide_eq_true rfl]
    exact k
end
end Yk

set_option maxHeartbeats 4000000
namespace Yk
open PySem PySem.Spec PyProof.Rows L2 TL

section
variable {σ : L2.St} {H : Hp} {Q : VK} {te : TE}
theorem r_js {t : TE} {ts : List TE} {acc : Str} {R : Str → Hp → Prop} (h : t σ H fun x H1 => ∃ y : Str, x = .str y ∧ (acc ++ y).length ≤ sizeLine ∧ tJs ts (acc ++ y) σ H1 R) : tJs (t :: ts) acc σ H R := h
theorem r_M1 {r : V → List V → Hp → VK → Prop} {to : TE} (h : to σ H fun x H1 => (∃ a, x = .str a) ∧ te σ H1 fun y H2 => r x [y] H2 Q) : tM1 r to te σ H Q := h
theorem r_jsN {acc : Str} {R : Str → Hp → Prop} (h : R acc H) : tJs [] acc σ H R := h
theorem r_fmt (h : te σ H fun x H1 => (∃ y : Str, x = .str y ∧ y.length ≤ sizeLine ∧ Q (.str y) H1) ∨ ∃ i : Int, x = .int i ∧ i.natAbs.log2 < 1920 ∧ Q (.str (toString i)) H1) : tFmt te σ H Q := h
theorem e_app (x : Str) : Str.empty ++ x = x := str_eq (by
  show (#[] ++ x.cps).toList = x.cps.toList
  simp)
theorem len_app (x y : Str) : (x ++ y).length = x.length + y.length := by
  show (x.cps ++ y.cps).size = _
  rw [Array.size_append]
  rfl
theorem ntl {n : Nat} (h : n < 2 ^ 1900) : (nt n).length ≤ 1900 := by rw [len_nt]; exact numL_le (by decide) (bits_lt h)
theorem ntl4 {n : Nat} (h : n < 2 ^ 1200) : (nt n).length ≤ 400 := by rw [len_nt]; exact numL_le (by decide) (Nat.lt_of_lt_of_le h (by decide +kernel))
end
section
variable {P : Program} {w : World} {K : PySem.W.Frag} {mg : Str → Option Value} {base : Heap} {f : Addr} {fd : FuncData}
def spReadNum (K : PySem.W.Frag) : Sp := fun vs H Q _ => ∃ (n : Nat) (m : Int), vs = [.str (nt n), .int m] ∧ (nt n).length ≤ 640 ∧ ((nt n).length : Int) ≤ m ∧ Q (.int (n : Int)) H
def spAmTxt (K : PySem.W.Frag) : Sp := fun vs H Q _ => ∃ v q, vs = [v] ∧ Am K H v q ∧ 0 ≤ q ∧ Sz 1900 q ∧ ∀ H', Ext [] H H' → Q (.str (amTxt q)) H'
def spReadAm (K : PySem.W.Frag) : Sp := fun vs H Q _ => ∃ q, vs = [.str (amTxt q)] ∧ 0 ≤ q ∧ Sz 1200 q ∧ RetAm K H Q q
end
end Yk

set_option maxHeartbeats 8000000
namespace Yk
open PySem PySem.Spec PyProof.Rows L2 TL

section
variable {P : Program} {w : World} {K : PySem.W.Frag} {mg : Str → Option Value} {base : Heap} {f : Addr} {fd : FuncData}
section
variable {H : Hp} {Q : VK} {E : XK} {v1 v2 v3 : V} {p q r : Rat} {m n : Nat}
theorem sumQ2 (p q : Rat) : sumQ [p, q] = p + q := by
  show 0 + p + q = p + q
  rw [Rat.zero_add]
theorem sumQ3 (p q r : Rat) : sumQ [p, q, r] = p + q + r := by
  show 0 + p + q + r = p + q + r
  rw [Rat.zero_add]
theorem k_plus2 (a1 : Am K H v1 p) (a2 : Am K H v2 q) (z1 : Sz 1900 p) (z2 : Sz 1900 q) (k : ∀ v H', Ext [] H H' → Am K H' v (p + q) → Q v H') : spPlus K [v1, v2] H Q E :=
  ⟨[p, q], 1900, Ams.cons a1 (Ams.cons a2 Ams.nil), fun x hx => by
    rcases List.mem_cons.mp hx with rfl | hx
    · exact z1
    · rw [List.mem_singleton.mp hx]; exact z2, by decide, by simp, fun v H' e a => k v H' e (by rw [sumQ2] at a; exact a)⟩
theorem k_plus3 (a1 : Am K H v1 p) (a2 : Am K H v2 q) (a3 : Am K H v3 r) (z1 : Sz 1300 p) (z2 : Sz 1300 q) (z3 : Sz 1300 r) (k : ∀ v H', Ext [] H H' → Am K H' v (p + q + r) → Q v H') : spPlus K [v1, v2, v3] H Q E :=
  ⟨[p, q, r], 1300, Ams.cons a1 (Ams.cons a2 (Ams.cons a3 Ams.nil)), fun x hx => by
    rcases List.mem_cons.mp hx with rfl | hx
    · exact z1
    · rcases List.mem_cons.mp hx with rfl | hx
      · exact z2
      · rw [List.mem_singleton.mp hx]; exact z3, by decide, by simp, fun v H' e a => k v H' e (by rw [sumQ3] at a; exact a)⟩
theorem k_times (a1 : Am K H v1 p) (a2 : Am K H v2 q) (z1 : Sz 4000 p) (z2 : Sz 4000 q) (k : ∀ v H', Ext [] H H' → Am K H' v (p * q) → Q v H') : spTimes K [v1, v2] H Q E := ⟨_, _, p, q, rfl, a1, a2, z1, z2, k⟩
theorem k_over (a1 : Am K H v1 p) (a2 : Am K H v2 q) (h : 0 < q) (z1 : Sz 4000 p) (z2 : Sz 4000 q) (k : ∀ v H', Ext [] H H' → Am K H' v (p / q) → Q v H') : spOver K [v1, v2] H Q E := ⟨_, _, p, q, rfl, a1, a2, h, z1, z2, k⟩
theorem k_minus (a1 : Am K H v1 p) (a2 : Am K H v2 q) (h : q ≤ p) (z1 : Sz 4000 p) (z2 : Sz 4000 q) (k : ∀ v H', Ext [] H H' → Am K H' v (p - q) → Q v H') : spMinus K [v1, v2] H Q E := ⟨_, _, p, q, rfl, a1, a2, h, z1, z2, k⟩
theorem k_cmp (a1 : Am K H v1 p) (a2 : Am K H v2 q) (z1 : Sz 4000 p) (z2 : Sz 4000 q) (k : Q (.int (cmpQ p q)) H) : spCompare K [v1, v2] H Q E := ⟨_, _, p, q, rfl, a1, a2, z1, z2, k⟩
theorem k_order (a1 : Am K H v1 p) (a2 : Am K H v2 q) (z1 : Sz 4000 p) (z2 : Sz 4000 q) (k : Q (.int (cmpQ p q)) H) : spOrder K [v1, v2] H Q E := ⟨_, _, p, q, rfl, a1, a2, z1, z2, k⟩
theorem k_two {ok : Rat → Rat → Prop} {F : Rat → Rat → Rat} (a1 : Am K H v1 p) (a2 : Am K H v2 q) (z1 : Sz 4000 p) (z2 : Sz 4000 q) (h1 : 0 ≤ p) (h2 : 0 ≤ q) (h3 : ok p q) (k : ∀ v H', Ext [] H H' → Am K H' v (F p q) → Q v H') : sp2 ok F K [v1, v2] H Q E := ⟨_, _, p, q, rfl, a1, a2, z1, z2, h1, h2, h3, k⟩
theorem ams_eqd {a b : Addr} {xs ys : List V} {qs : List Rat} (h1 : SqL K H a xs) (h2 : SqL K H b ys) (h3 : Ams K H xs qs) (h4 : Ams K H ys qs) (h5 : qs.length ≤ 4000) (n : Nat) : Eqd K H (n + 2) (.ref a) (.ref b) :=
  .lst h1 h2 (h3.1.trans h4.1.symm) (by rw [h3.1]; exact h5) fun i x y hx hy => by
    obtain ⟨q, hq, e1⟩ := h3.at_ hx
    exact e1.eqd n (h4.2 i y q hy hq)
theorem k_like {v w : V} {n : Nat} (h : Eqd K H n v w) (k : ∀ H', Ext [] H H' → Q (.bl true) H') : spLike K (n + 1) [v, w] H Q E := ⟨v, w, rfl, h, k⟩
theorem ints_eqd {a b : Addr} {ns : List Int} (h1 : SqL K H a (ns.map V.int)) (h2 : SqL K H b (ns.map V.int)) (h : ns.length ≤ 4000) (n : Nat) : Eqd K H (n + 1) (.ref a) (.ref b) :=
  .lst h1 h2 rfl (by rw [List.length_map]; exact h) fun i x y hx hy => by
    rw [hx] at hy
    cases hy
    rw [List.getElem?_map] at hx
    cases e : ns[i]? with
    | none => rw [e] at hx; cases hx
    | some z => rw [e] at hx; cases hx; exact .int _ _
theorem cmpQ_eq (p q : Rat) : cmpQ p q = cmpQ' p q := rfl
end
def spThree (K : PySem.W.Frag) : Sp := fun vs H Q _ => ∃ v1 v2 v3 p q r, vs = [v1, v2, v3] ∧ Am K H v1 p ∧ Am K H v2 q ∧ Am K H v3 r ∧ 0 ≤ p ∧ 0 ≤ q ∧ 0 ≤ r ∧ Sz 114 p ∧ Sz 114 q ∧ Sz 114 r ∧ ∀ H', Ext [] H H' → Q (.bl true) H'
end
end Yk

set_option maxHeartbeats 8000000
namespace Yk
open PySem PySem.Spec PyProof.Rows L2 TL

section
variable {P : Program} {w : World} {K : PySem.W.Frag} {mg : Str → Option Value} {base : Heap} {f : Addr} {fd : FuncData}
/-! the row of a turn -/
theorem Am.b2 {H H1 : Hp} {b : Bag} {v : V} {q : Rat} (e : Ext [b.a] H H1) (hb : BagAt K H b) (h : Am K H v q) : Am K H1 v q := h.b hb e
def Good (qs : List Rat) : Prop := 3 ≤ qs.length ∧ qs.length ≤ 6 ∧ ∀ q ∈ qs, 0 ≤ q ∧ Sz 114 q
structure RowAt (K : PySem.W.Frag) (H0 H : Hp) (b : Bag) (row : Addr) (xs : List V) (qs : List Rat) : Prop where
  at_ : H row = some (.lst xs)
  ams : Ams K H xs qs
  good : Good qs
  bag : BagAt K H b
  new : H0 row = none
  bag0 : BagAt K H0 b
  ext : Ext [b.a] H0 H
theorem RowAt.ne {H0 H : Hp} {b : Bag} {row : Addr} {xs : List V} {qs : List Rat} (R : RowAt K H0 H b row xs qs) : row ≠ b.a := fun z => R.bag0.ne R.new z.symm
theorem RowAt.x0 {H0 H H1 : Hp} {b : Bag} {row : Addr} {xs : List V} {qs : List Rat} (e : Ext [] H H1) (R : RowAt K H0 H b row xs qs) : RowAt K H0 H1 b row xs qs :=
  ⟨e _ _ R.at_ (fun z => nomatch z), R.ams.x0 e, R.good, R.bag.x0 e, R.new, R.bag0, R.ext.trans e.of0⟩
theorem RowAt.b {H0 H H1 : Hp} {b : Bag} {row : Addr} {xs : List V} {qs : List Rat} (e : Ext [b.a] H H1) (hb : BagAt K H1 b) (R : RowAt K H0 H b row xs qs) : RowAt K H0 H1 b row xs qs :=
  ⟨e _ _ R.at_ (by simpa using R.ne), R.ams.b R.bag e, R.good, hb, R.new, R.bag0, R.ext.trans e⟩
theorem RowAt.sq {H0 H : Hp} {b : Bag} {row : Addr} {xs : List V} {qs : List Rat} (R : RowAt K H0 H b row xs qs) : SqL K H row xs := .inl (.inl R.at_)
theorem Ams.set {H : Hp} {xs : List V} {qs : List Rat} (h : Ams K H xs qs) {j : Nat} {v : V} {q : Rat} (hv : Am K H v q) : Ams K H (xs.set j v) (qs.set j q) := by
  refine ⟨by rw [List.length_set, List.length_set, h.1], fun i x y a b => ?_⟩
  by_cases hj : j = i
  · subst hj
    rw [List.getElem?_set_self'] at a b
    cases ex : xs[j]? with
    | none => rw [ex] at a; cases a
    | some x0 =>
      cases eq : qs[j]? with
      | none => rw [eq] at b; cases b
      | some q0 =>
        rw [ex] at a
        rw [eq] at b
        cases a
        cases b
        exact hv
  · rw [List.getElem?_set_ne hj] at a b
    exact h.2 i x y a b
theorem lmax_eq (m q : Rat) : lmax m q = if m < q then q else m := by
  unfold lmax
  by_cases h1 : q < m
  · rw [if_pos h1, if_neg (by grind)]
  · rw [if_neg h1]
    by_cases h2 : m < q
    · rw [if_pos h2]
    · rw [if_neg h2]; grind
theorem minQ_spec : ∀ (qs : List Rat) (p : Rat), minQ p qs ∈ p :: qs ∧ ∀ x ∈ p :: qs, minQ p qs ≤ x
  | [], p => ⟨List.mem_cons_self, fun x hx => by rw [List.mem_singleton.mp hx]; exact Rat.le_refl⟩
  | q :: r, p => by
    obtain ⟨h1, h2⟩ := minQ_spec r (if q < p then q else p)
    have e : minQ p (q :: r) = minQ (if q < p then q else p) r := rfl
    rw [e]
    have h3 := h2 _ List.mem_cons_self
    refine ⟨?_, fun x hx => ?_⟩
    · rcases List.mem_cons.mp h1 with h | h
      · rw [h]; split <;> simp
      · exact List.mem_cons_of_mem _ (List.mem_cons_of_mem _ h)
    · rcases List.mem_cons.mp hx with rfl | hx
      · refine Rat.le_trans h3 ?_
        split
        · grind
        · exact Rat.le_refl
      · rcases List.mem_cons.mp hx with rfl | hx
        · refine Rat.le_trans h3 ?_
          split
          · exact Rat.le_refl
          · grind
        · exact h2 x (List.mem_cons_of_mem _ hx)
theorem maxQ_spec : ∀ (qs : List Rat) (p : Rat), maxQ p qs ∈ p :: qs ∧ ∀ x ∈ p :: qs, x ≤ maxQ p qs
  | [], p => ⟨List.mem_cons_self, fun x hx => by rw [List.mem_singleton.mp hx]; exact Rat.le_refl⟩
  | q :: r, p => by
    obtain ⟨h1, h2⟩ := maxQ_spec r (if p < q then q else p)
    have e : maxQ p (q :: r) = maxQ (if p < q then q else p) r := rfl
    rw [e]
    have h3 := h2 _ List.mem_cons_self
    refine ⟨?_, fun x hx => ?_⟩
    · rcases List.mem_cons.mp h1 with h | h
      · rw [h]; split <;> simp
      · exact List.mem_cons_of_mem _ (List.mem_cons_of_mem _ h)
    · rcases List.mem_cons.mp hx with rfl | hx
      · refine Rat.le_trans ?_ h3
        split
        · grind
        · exact Rat.le_refl
      · rcases List.mem_cons.mp hx with rfl | hx
        · refine Rat.le_trans ?_ h3
          split
          · exact Rat.le_refl
          · grind
        · exact h2 x (List.mem_cons_of_mem _ hx)
theorem minQ_perm {p q : Rat} {l m : List Rat} (h : (p :: l).Perm (q :: m)) : minQ p l = minQ q m := by
  obtain ⟨a1, a2⟩ := minQ_spec l p
  obtain ⟨b1, b2⟩ := minQ_spec m q
  exact Rat.le_antisymm (a2 _ (h.symm.subset b1)) (b2 _ (h.subset a1))
theorem maxQ_perm {p q : Rat} {l m : List Rat} (h : (p :: l).Perm (q :: m)) : maxQ p l = maxQ q m := by
  obtain ⟨a1, a2⟩ := maxQ_spec l p
  obtain ⟨b1, b2⟩ := maxQ_spec m q
  exact Rat.le_antisymm (b2 _ (h.subset a1)) (a2 _ (h.symm.subset b1))
theorem foldl_lmin (q : Rat) (l : List Rat) : (q :: l).foldl lmin q = minQ q l := by
  show l.foldl lmin (lmin q q) = minQ q l
  have e : lmin q q = q := by unfold lmin; split <;> rfl
  rw [e]
  rfl
theorem foldl_lmax (q : Rat) (l : List Rat) : (q :: l).foldl lmax q = maxQ q l := by
  show l.foldl lmax (lmax q q) = maxQ q l
  have e : lmax q q = q := by unfold lmax; split <;> rfl
  rw [e]
  have h : ∀ (l : List Rat) (z : Rat), l.foldl lmax z = l.foldl (fun m q => if m < q then q else m) z := by
    intro l
    induction l with
    | nil => intro z; rfl
    | cons a r ih =>
      intro z
      show r.foldl lmax (lmax z a) = r.foldl _ (if z < a then a else z)
      rw [lmax_eq, ih]
  exact h l q
/-- from the same things in another order, the same row -/
theorem ams_perm {H : Hp} {xs ys : List V} (p : ys.Perm xs) : ∀ {qs : List Rat}, Ams K H xs qs → ∃ rs, Ams K H ys rs ∧ rs.Perm qs := by
  induction p with
  | nil => exact fun {qs} h => ⟨qs, h, List.Perm.refl _⟩
  | cons x _ ih =>
    intro qs h
    cases qs with
    | nil => exact absurd h.1 (by simp)
    | cons q r =>
      have h1 : Ams K H _ r := ⟨by simpa using h.1, fun i v u a b => h.2 (i + 1) v u (by simpa using a) (by simpa using b)⟩
      obtain ⟨rs, a, b⟩ := ih h1
      exact ⟨q :: rs, Ams.cons (h.2 0 x q rfl rfl) a, b.cons q⟩
  | swap x y l =>
    intro qs h
    match qs, h with
    | [], h => exact absurd h.1 (by simp)
    | [_], h => exact absurd h.1 (by simp)
    | q1 :: q2 :: r, h =>
      have h1 : Ams K H l r := ⟨by simpa using h.1, fun i v u a b => h.2 (i + 2) v u (by simpa using a) (by simpa using b)⟩
      exact ⟨q2 :: q1 :: r, Ams.cons (h.2 1 _ q2 rfl rfl) (Ams.cons (h.2 0 _ q1 rfl rfl) h1), List.Perm.swap q1 q2 r⟩
  | trans _ _ ih1 ih2 =>
    intro qs h
    obtain ⟨rs, a, b⟩ := ih2 h
    obtain ⟨ts, c, d⟩ := ih1 a
    exact ⟨ts, c, d.trans b⟩
theorem Good.perm {qs rs : List Rat} (g : Good qs) (p : rs.Perm qs) : Good rs := ⟨by rw [p.length_eq]; exact g.1, by rw [p.length_eq]; exact g.2.1, fun q hq => g.2.2 q (p.subset hq)⟩
theorem k_amt {H : Hp} {b : Bag} {Q : VK} {E : XK} (hb : BagAt K H b) (k : ∀ v q H', Am K H' v q → 0 ≤ q → Sz 114 q → BagAt K H' b → Ext [b.a] H H' → Q v H') : spAmt K [.ref b.a] H Q E := ⟨b, rfl, hb, k⟩
theorem k_draw {H : Hp} {b : Bag} {n : Int} {Q : VK} {E : XK} (hb : BagAt K H b) (h0 : 0 < n) (h1 : n < 2 ^ 400) (k : ∀ (x : Int) H', 0 ≤ x → x < n → BagAt K H' b → Ext [b.a] H H' → Q (.int x) H') : spDraw K [.ref b.a, .int n] H Q E := ⟨b, n, rfl, h0, h1, hb, k⟩
end
end Yk

set_option maxHeartbeats 4000000
namespace Yk
structure Row where
  man : Option (Rat × Rat)
  w : Nat
  b : Rat
def shq (man : Option (Rat × Rat)) (w : Nat) (x : Rat) : Rat := match man with
  | none => 0
  | some (l, m) => lmax l (lmin m ((w : Rat) * x))
def Row.at_ (r : Row) (x : Rat) : Rat := shq r.man r.w (lmin x r.b)
def tot (rows : List Row) (x : Rat) : Rat := sumQ (rows.map fun r => r.at_ x)
theorem sumQ_cons (q : Rat) (l : List Rat) : sumQ (q :: l) = q + sumQ l := by
  have h : ∀ (l : List Rat) (z : Rat), l.foldl (· + ·) z = z + sumQ l := by
    intro l
    induction l with
    | nil => intro z; show z = z + 0; rw [Rat.add_zero]
    | cons a r ih =>
      intro z
      show r.foldl (· + ·) (z + a) = z + sumQ (a :: r)
      have e : sumQ (a :: r) = a + sumQ r := by
        show r.foldl (· + ·) (0 + a) = _
        rw [ih, Rat.zero_add]
      rw [ih, e, Rat.add_assoc]
  show l.foldl (· + ·) (0 + q) = _
  rw [h, Rat.zero_add]
theorem lmin_le1 (p q : Rat) : lmin p q ≤ p := by unfold lmin; split <;> grind
theorem lmin_le2 (p q : Rat) : lmin p q ≤ q := by unfold lmin; split <;> grind
theorem lmin_mono {p q r : Rat} (h : p ≤ q) : lmin p r ≤ lmin q r := by unfold lmin; split <;> split <;> grind
theorem wmono {w : Nat} {x y : Rat} (h : x ≤ y) : (w : Rat) * x ≤ (w : Rat) * y := Rat.mul_le_mul_of_nonneg_left h (by exact_mod_cast Nat.zero_le w)
theorem shq_mono {man : Option (Rat × Rat)} {w : Nat} {x y : Rat} (h : x ≤ y) : shq man w x ≤ shq man w y := by
  cases man with
  | none => exact Rat.le_refl
  | some p =>
    obtain ⟨l, m⟩ := p
    have h2 := wmono (w := w) h
    show lmax l (lmin m _) ≤ lmax l (lmin m _)
    generalize (w : Rat) * x = a at h2
    generalize (w : Rat) * y = b at h2
    unfold lmax lmin
    grind
theorem Row.mono (r : Row) {x y : Rat} (h : x ≤ y) : r.at_ x ≤ r.at_ y := shq_mono (lmin_mono h)
theorem tot_cons (r : Row) (rows : List Row) (x : Rat) : tot (r :: rows) x = r.at_ x + tot rows x := sumQ_cons _ _
theorem tot_mono (rows : List Row) {x y : Rat} (h : x ≤ y) : tot rows x ≤ tot rows y := by
  induction rows with
  | nil => exact Rat.le_refl
  | cons r rows ih =>
    rw [tot_cons, tot_cons]
    have := r.mono h
    grind
/-- linear between l and u -/
def Lin (T : Rat → Rat) (l u : Rat) : Prop := ∀ z, l ≤ z → z ≤ u → (T z - T l) * (u - l) = (T u - T l) * (z - l)
theorem Lin.const {T : Rat → Rat} {l u c : Rat} (hu : l ≤ u) (h : ∀ z, l ≤ z → z ≤ u → T z = c) : Lin T l u := fun z h1 h2 => by
  rw [h z h1 h2, h l Rat.le_refl hu, h u hu Rat.le_refl]
  grind
theorem Lin.line {T : Rat → Rat} {l u c : Rat} (hu : l ≤ u) (h : ∀ z, l ≤ z → z ≤ u → T z = c * z) : Lin T l u := fun z h1 h2 => by
  rw [h z h1 h2, h l Rat.le_refl hu, h u hu Rat.le_refl]
  grind
theorem Lin.add {T S : Rat → Rat} {l u : Rat} (h1 : Lin T l u) (h2 : Lin S l u) : Lin (fun z => T z + S z) l u := fun z a b => by
  have := h1 z a b
  have := h2 z a b
  dsimp only
  grind
def Row.brk (r : Row) : List Rat := match r.man with
  | none => [r.b]
  | some (l, m) => [l / (r.w : Rat), m / (r.w : Rat), r.b]
theorem Row.lin (r : Row) (hw : 0 < r.w) {l u : Rat} (hlu : l ≤ u) (h : r.man ≠ none → ∀ p ∈ r.brk, p ≤ l ∨ u ≤ p) : Lin r.at_ l u := by
  obtain ⟨man, w, b⟩ := r
  cases man with
  | none => exact Lin.const hlu (c := 0) fun z _ _ => rfl
  | some p =>
    obtain ⟨s, m⟩ := p
    have h := h (by simp)
    have hs := h (s / (w : Rat)) (by simp [Row.brk])
    have hm := h (m / (w : Rat)) (by simp [Row.brk])
    have hb := h b (by simp [Row.brk])
    have w0 : (0 : Rat) < (w : Rat) := by exact_mod_cast hw
    have es : (w : Rat) * (s / (w : Rat)) = s := by grind
    have em : (w : Rat) * (m / (w : Rat)) = m := by grind
    generalize s / (w : Rat) = s' at *
    generalize m / (w : Rat) = m' at *
    subst es em
    have k : ∀ z : Rat, ({ man := some ((w : Rat) * s', (w : Rat) * m'), w := w, b := b } : Row).at_ z = lmax ((w : Rat) * s') (lmin ((w : Rat) * m') ((w : Rat) * lmin z b)) := fun z => rfl
    have c1 : ∀ x y : Rat, x ≤ y → lmin ((w : Rat) * y) ((w : Rat) * x) = (w : Rat) * x := fun x y hxy => by have := wmono (w := w) hxy; unfold lmin; grind
    have c2 : ∀ x y : Rat, x ≤ y → lmin ((w : Rat) * x) ((w : Rat) * y) = (w : Rat) * x := fun x y hxy => by have := wmono (w := w) hxy; unfold lmin; grind
    have d1 : ∀ x y : Rat, x ≤ y → lmax ((w : Rat) * y) ((w : Rat) * x) = (w : Rat) * y := fun x y hxy => by have := wmono (w := w) hxy; unfold lmax; grind
    have d2 : ∀ x y : Rat, x ≤ y → lmax ((w : Rat) * x) ((w : Rat) * y) = (w : Rat) * y := fun x y hxy => by have := wmono (w := w) hxy; unfold lmax; grind
    rcases hb with hb | hb
    · refine Lin.const hlu (c := lmax ((w : Rat) * s') (lmin ((w : Rat) * m') ((w : Rat) * b))) fun z h1 h2 => ?_
      rw [k, show lmin z b = b by unfold lmin; grind]
    · have kz : ∀ z : Rat, z ≤ u → lmin z b = z := fun z h2 => by unfold lmin; grind
      rcases hm with hm | hm
      · refine Lin.const hlu (c := lmax ((w : Rat) * s') ((w : Rat) * m')) fun z h1 h2 => ?_
        rw [k, kz z h2, c2 _ _ (by grind)]
      · rcases hs with hs | hs
        · refine Lin.line hlu (c := (w : Rat)) fun z h1 h2 => ?_
          rw [k, kz z h2, c1 _ _ (by grind), d2 _ _ (by grind)]
        · refine Lin.const hlu (c := (w : Rat) * s') fun z h1 h2 => ?_
          rw [k, kz z h2, c1 _ _ (by grind), d1 _ _ (by grind)]
theorem lin_tot (rows : List Row) (hw : ∀ r ∈ rows, 0 < r.w) {l u : Rat} (hlu : l ≤ u) (h : ∀ r ∈ rows, r.man ≠ none → ∀ p ∈ r.brk, p ≤ l ∨ u ≤ p) : Lin (tot rows) l u := by
  induction rows with
  | nil => exact Lin.const hlu (c := 0) fun z _ _ => rfl
  | cons r rows ih =>
    have e : tot (r :: rows) = fun x => r.at_ x + tot rows x := funext fun x => tot_cons r rows x
    rw [e]
    exact (r.lin (hw r List.mem_cons_self) hlu (h r List.mem_cons_self)).add (ih (fun r hr => hw r (List.mem_cons_of_mem _ hr)) fun r hr => h r (List.mem_cons_of_mem _ hr))
theorem le_cases {x y : Rat} (h : x ≤ y) : x < y ∨ x = y := by grind
theorem nlt {x y : Rat} (h : x < y → False) : y ≤ x := Rat.not_lt.mp h
/-- the level: the least height at which the goal is reached, else the top -/
structure IsLev (T : Rat → Rat) (top goal y : Rat) : Prop where
  nn : 0 ≤ y
  le : y ≤ top
  lo : ∀ z, 0 ≤ z → z < y → T z < goal
  hi : goal ≤ T y ∨ y = top
theorem IsLev.le_of {T : Rat → Rat} {top goal y z : Rat} (a : IsLev T top goal y) (b : IsLev T top goal z) : z ≤ y := nlt fun h => by
  have := b.lo y a.nn h
  rcases a.hi with e | e
  · grind
  · have := b.le; grind
theorem IsLev.uniq {T : Rat → Rat} {top goal y z : Rat} (a : IsLev T top goal y) (b : IsLev T top goal z) : y = z := Rat.le_antisymm (b.le_of a) (a.le_of b)
/-- on a line -/
def onl (T : Rat → Rat) (goal l u : Rat) : Rat := l + (goal - T l) * (u - l) / (T u - T l)
theorem lev_line {T : Rat → Rat} {top goal l u : Rat} (mono : ∀ x y, x ≤ y → T x ≤ T y) (h0 : 0 ≤ l) (hlu : l ≤ u) (hu : u ≤ top) (hl : Lin T l u) (g1 : T l < goal) (g2 : goal ≤ T u) : IsLev T top goal (onl T goal l u) ∧ l < onl T goal l u ∧ onl T goal l u ≤ u ∧ T (onl T goal l u) = goal := by
  have lu : l < u := by
    rcases le_cases hlu with h | h
    · exact h
    · subst h; grind
  have d0 : 0 < T u - T l := by grind
  have e0 : 0 < u - l := by grind
  obtain ⟨y, hy⟩ : ∃ y, y = onl T goal l u := ⟨_, rfl⟩
  rw [← hy]
  have ey : (y - l) * (T u - T l) = (goal - T l) * (u - l) := by
    rw [hy]
    unfold onl
    grind
  have y1 : l < y := by
    have h1 : 0 < (y - l) * (T u - T l) := by rw [ey]; exact Rat.mul_pos (by grind) e0
    refine Rat.not_le.mp fun h => ?_
    have h2 : 0 ≤ (l - y) * (T u - T l) := Rat.mul_nonneg (by grind) (by grind)
    grind
  have y2 : y ≤ u := by
    refine Rat.not_lt.mp fun h => ?_
    have h1 : 0 < (y - u) * (T u - T l) := Rat.mul_pos (by grind) d0
    have h2 : 0 ≤ (T u - goal) * (u - l) := Rat.mul_nonneg (by grind) (by grind)
    grind
  have ty : T y = goal := by
    have h1 := hl y (by grind) y2
    have h2 : (T y - goal) * (u - l) = 0 := by grind
    rcases Rat.mul_eq_zero.mp h2 with h | h <;> grind
  refine ⟨⟨by grind, by grind, fun z z0 zy => ?_, .inl (by rw [ty]; exact Rat.le_refl)⟩, y1, y2, ty⟩
  rcases (Rat.le_total : z ≤ l ∨ l ≤ z) with h | h
  · have := mono z l h; grind
  · have h1 := hl z h (by grind)
    have h2 := hl y (by grind) y2
    have h3 : (T y - T z) * (u - l) = (T u - T l) * (y - z) := by grind
    have h4 : 0 < (T u - T l) * (y - z) := Rat.mul_pos d0 (by grind)
    refine Rat.not_le.mp fun h5 => ?_
    have h6 : 0 ≤ (T z - T y) * (u - l) := Rat.mul_nonneg (by grind) (by grind)
    grind
theorem lev_zero {T : Rat → Rat} {top goal : Rat} (h : 0 ≤ top) (g : goal ≤ T 0) : IsLev T top goal 0 := ⟨Rat.le_refl, h, fun z a b => by grind, .inl g⟩
theorem lev_top {T : Rat → Rat} {top goal : Rat} (mono : ∀ x y, x ≤ y → T x ≤ T y) (h : 0 ≤ top) (g : T top < goal) : IsLev T top goal top := ⟨h, Rat.le_refl, fun z a b => by have := mono z top (by grind); grind, .inr rfl⟩
/-- not below 0, at most M, a multiple of the D-th part of 1 -/
structure In (D M : Nat) (q : Rat) : Prop where
  nn : 0 ≤ q
  le : q ≤ (M : Rat)
  ex : ∃ n : Int, q * (D : Rat) = (n : Rat)
theorem natQ {a b : Nat} (h : a ≤ b) : (a : Rat) ≤ (b : Rat) := by exact_mod_cast h
theorem natP {a : Nat} (h : 0 < a) : (0 : Rat) < (a : Rat) := by exact_mod_cast h
theorem In.sz {D M j k : Nat} {q : Rat} (h : In D M q) (h0 : 0 < D) (hD : D ≤ 2 ^ j) (hM : M ≤ 2 ^ k) : Sz (j + k + 1) q := by
  obtain ⟨n, e⟩ := h.ex
  have d0 := natP h0
  have eq : q = mkRat n D := by
    rw [Rat.mkRat_eq_div]
    grind
  have n0 : 0 ≤ n := by
    have h1 : (0 : Rat) ≤ q * (D : Rat) := Rat.mul_nonneg h.nn (by grind)
    rw [e] at h1
    exact_mod_cast h1
  have n1 : n ≤ (M * D : Nat) := by
    have h1 : q * (D : Rat) ≤ (M : Rat) * (D : Rat) := Rat.mul_le_mul_of_nonneg_right h.le (by grind)
    rw [e] at h1
    have h2 : ((n : Int) : Rat) ≤ (((M * D : Nat) : Int) : Rat) := by push_cast; exact h1
    exact_mod_cast h2
  have hh : M * D ≤ 2 ^ (j + k) := by rw [Nat.add_comm, Nat.pow_add]; exact Nat.mul_le_mul hM hD
  have h2 : 2 ^ (j + k) < 2 ^ (j + k + 1) := Nat.pow_lt_pow_succ (by decide)
  have h3 : 2 ^ j ≤ 2 ^ (j + k) := Nat.pow_le_pow_right (by decide) (by omega)
  refine sz_mk h0 eq ?_ ?_
  · omega
  · omega
theorem In.up {D D' M : Nat} {q : Rat} (h : In D M q) (hd : D ∣ D') : In D' M q := by
  obtain ⟨n, e⟩ := h.ex
  obtain ⟨c, rfl⟩ := hd
  refine ⟨h.nn, h.le, n * (c : Int), ?_⟩
  push_cast
  grind
theorem In.most {D M M' : Nat} {q : Rat} (h : In D M q) (hm : M ≤ M') : In D M' q := ⟨h.nn, Rat.le_trans h.le (natQ hm), h.ex⟩
theorem In.of_le {D M M' : Nat} {q : Rat} (h : In D M q) (hm : q ≤ (M' : Rat)) : In D M' q := ⟨h.nn, hm, h.ex⟩
theorem In.zero {D M : Nat} : In D M 0 := ⟨Rat.le_refl, natQ (Nat.zero_le M), 0, by norm_cast; grind⟩
theorem In.nat {D M n : Nat} (h : n ≤ M) : In D M (n : Rat) := ⟨natQ (Nat.zero_le n), natQ h, ((n * D : Nat) : Int), by push_cast; rfl⟩
theorem In.frac {D M n d : Nat} (h : 0 < d) (hd : d ∣ D) (hm : n ≤ M * d) : In D M (mkRat (n : Int) d) := by
  obtain ⟨c, rfl⟩ := hd
  have d0 := natP h
  have e : mkRat (n : Int) d = (n : Rat) / (d : Rat) := by rw [Rat.mkRat_eq_div]; norm_cast
  have hm' : (n : Rat) ≤ (M : Rat) * (d : Rat) := by exact_mod_cast hm
  have n0 := natQ (Nat.zero_le n)
  obtain ⟨x, ex⟩ : ∃ x : Rat, x = (n : Rat) / (d : Rat) := ⟨_, rfl⟩
  have ex2 : x * (d : Rat) = (n : Rat) := by rw [ex]; grind
  rw [e, ← ex]
  refine ⟨?_, ?_, ((n * c : Nat) : Int), ?_⟩
  · refine Rat.not_lt.mp fun z => ?_
    have := Rat.mul_pos (a := -x) (b := (d : Rat)) (by grind) d0
    grind
  · refine Rat.not_lt.mp fun z => ?_
    have := Rat.mul_pos (a := x - (M : Rat)) (b := (d : Rat)) (by grind) d0
    grind
  · push_cast
    grind
theorem In.add {D M N : Nat} {p q : Rat} (h : In D M p) (g : In D N q) : In D (M + N) (p + q) := by
  obtain ⟨a, ea⟩ := h.ex
  obtain ⟨b, eb⟩ := g.ex
  have := h.nn; have := h.le; have := g.nn; have := g.le
  refine ⟨by grind, by push_cast; grind, a + b, by push_cast; grind⟩
theorem In.sub {D M N : Nat} {p q : Rat} (h : In D M p) (g : In D N q) (e : q ≤ p) : In D M (p - q) := by
  obtain ⟨a, ea⟩ := h.ex
  obtain ⟨b, eb⟩ := g.ex
  have := h.nn; have := h.le; have := g.nn; have := g.le
  refine ⟨by grind, by grind, a - b, by push_cast; grind⟩
theorem In.lmin {D M N : Nat} {p q : Rat} (h : In D M p) (g : In D N q) : In D N (lmin p q) := by
  unfold Yk.lmin
  split
  · exact g
  · exact h.of_le (by have := g.le; grind)
theorem In.lmin1 {D M N : Nat} {p q : Rat} (h : In D M p) (g : In D N q) : In D M (Yk.lmin p q) := by
  unfold Yk.lmin
  split
  · exact g.of_le (by have := h.le; grind)
  · exact h
theorem In.lmax {D M : Nat} {p q : Rat} (h : In D M p) (g : In D M q) : In D M (lmax p q) := by
  unfold Yk.lmax
  split
  · exact h
  · exact g
theorem In.mulN {D M : Nat} {q : Rat} (h : In D M q) (w : Nat) : In D (w * M) ((w : Rat) * q) := by
  obtain ⟨a, ea⟩ := h.ex
  have w0 : (0 : Rat) ≤ (w : Rat) := natQ (Nat.zero_le w)
  refine ⟨Rat.mul_nonneg w0 h.nn, ?_, (w : Int) * a, by push_cast; grind⟩
  push_cast
  exact Rat.mul_le_mul_of_nonneg_left h.le w0
theorem In.mul {D D' M N : Nat} {p q : Rat} (h : In D M p) (g : In D' N q) : In (D * D') (M * N) (p * q) := by
  obtain ⟨a, ea⟩ := h.ex
  obtain ⟨b, eb⟩ := g.ex
  have h1 : p * q ≤ (M : Rat) * q := Rat.mul_le_mul_of_nonneg_right h.le g.nn
  have h2 : (M : Rat) * q ≤ (M : Rat) * (N : Rat) := Rat.mul_le_mul_of_nonneg_left g.le (natQ (Nat.zero_le M))
  refine ⟨Rat.mul_nonneg h.nn g.nn, by push_cast; exact Rat.le_trans h1 h2, a * b, ?_⟩
  push_cast
  rw [← ea, ← eb]
  grind
theorem In.divN {D M w : Nat} {q : Rat} (h : In D M q) (hw : 0 < w) : In (D * w) M (q / (w : Rat)) := by
  obtain ⟨a, ea⟩ := h.ex
  have w0 := natP hw
  obtain ⟨x, ex⟩ : ∃ x : Rat, x = q / (w : Rat) := ⟨_, rfl⟩
  have ex2 : x * (w : Rat) = q := by rw [ex]; grind
  have w1 : (1 : Rat) ≤ (w : Rat) := by exact_mod_cast hw
  have x0 : 0 ≤ x := by
    refine Rat.not_lt.mp fun z => ?_
    have := Rat.mul_pos (a := -x) (b := (w : Rat)) (by grind) w0
    have := h.nn
    grind
  rw [← ex]
  refine ⟨x0, ?_, a, by push_cast; grind⟩
  have h1 : x * 1 ≤ x * (w : Rat) := Rat.mul_le_mul_of_nonneg_left w1 x0
  have := h.le
  grind
theorem In.half {D M : Nat} {q : Rat} (h : In D M q) : In (D * 2) M (q * (1 / 2)) := by
  have := h.divN (w := 2) (by decide)
  have e : q / ((2 : Nat) : Rat) = q * (1 / 2) := by push_cast; grind
  rw [e] at this
  exact this
/-- the point on a line, its size -/
theorem In.onl {E M B : Nat} {g tl tu l u : Rat} (h0 : 0 < E) (hg : In E B g) (htl : In E B tl) (htu : In E B tu) (hl : In E M l) (hu : In E M u) (h1 : tl < g) (h2 : g ≤ tu) (h3 : l ≤ u) :
    ∃ X, 0 < X ∧ E ∣ X ∧ X ≤ E * (B * E) ∧ In X M (l + (g - tl) * (u - l) / (tu - tl)) ∧ In E B (g - tl) ∧ In E B (tu - tl) ∧ In E M (u - l) := by
  have ig := hg.sub htl (by grind)
  have ir := htu.sub htl (by grind)
  have iu := hu.sub hl h3
  obtain ⟨n1, e1⟩ := ig.ex
  obtain ⟨n3, e3⟩ := ir.ex
  obtain ⟨n2, e2⟩ := iu.ex
  obtain ⟨n0, e0⟩ := hl.ex
  have E0 := natP h0
  have r0 : 0 < tu - tl := by grind
  have n30 : 0 < n3 := by
    have h := Rat.mul_pos r0 E0
    rw [e3] at h
    exact_mod_cast h
  have n3m : n3 ≤ ((B * E : Nat) : Int) := by
    have h : (tu - tl) * (E : Rat) ≤ (B : Rat) * (E : Rat) := Rat.mul_le_mul_of_nonneg_right ir.le (by grind)
    rw [e3] at h
    have h2 : ((n3 : Int) : Rat) ≤ (((B * E : Nat) : Int) : Rat) := by push_cast; exact h
    exact_mod_cast h2
  have en : ((n3.toNat : Nat) : Int) = n3 := by omega
  have eq : ((n3.toNat : Nat) : Rat) = (n3 : Rat) := by rw [← en]; norm_cast
  refine ⟨E * n3.toNat, Nat.mul_pos h0 (by omega), Nat.dvd_mul_right _ _, Nat.mul_le_mul_left _ (by omega), ?_, ig, ir, iu⟩
  obtain ⟨y, ey⟩ : ∃ y, y = (g - tl) * (u - l) / (tu - tl) := ⟨_, rfl⟩
  have ey2 : y * (tu - tl) = (g - tl) * (u - l) := by rw [ey]; grind
  rw [← ey]
  have y0 : 0 ≤ y := by
    refine Rat.not_lt.mp fun z => ?_
    have h1 := Rat.mul_pos (a := -y) (b := tu - tl) (by grind) r0
    have h2 := Rat.mul_nonneg ig.nn iu.nn
    grind
  have y1 : y ≤ u - l := by
    refine Rat.not_lt.mp fun z => ?_
    have h1 := Rat.mul_pos (a := y - (u - l)) (b := tu - tl) (by grind) r0
    have h2 := Rat.mul_nonneg (a := tu - g) (b := u - l) (by grind) iu.nn
    grind
  refine ⟨by have := hl.nn; grind, by have := hu.le; grind, n0 * n3 + n1 * n2, ?_⟩
  have h5 : y * (E : Rat) * (n3 : Rat) = (n1 : Rat) * (n2 : Rat) := by
    rw [← e3, ← e1, ← e2]
    grind
  push_cast
  rw [eq, ← e0]
  grind

theorem sumQ_map_perm {rows rows' : List Row} (p : rows.Perm rows') (x : Rat) : tot rows x = tot rows' x := sumQ_perm (p.map fun r => r.at_ x)
theorem tot_perm {rows rows' : List Row} (p : rows.Perm rows') : tot rows = tot rows' := funext (sumQ_map_perm p)
/-- what a row may be -/
structure RowOk (D M : Nat) (r : Row) : Prop where
  w0 : 0 < r.w
  w12 : r.w ≤ 12
  b : In D M r.b
  m : ∀ l u, r.man = some (l, u) → In D M l ∧ In D M u
theorem RowOk.up {D D' M : Nat} {r : Row} (h : RowOk D M r) (hd : D ∣ D') : RowOk D' M r := ⟨h.w0, h.w12, h.b.up hd, fun l u e => ⟨(h.m l u e).1.up hd, (h.m l u e).2.up hd⟩⟩
theorem shq_in {X M N w : Nat} {man : Option (Rat × Rat)} {x : Rat} (hm : ∀ l u, man = some (l, u) → In X M l ∧ In X M u) (hx : In X N x) : In X M (shq man w x) := by
  cases man with
  | none => exact In.zero
  | some p =>
    obtain ⟨l, u⟩ := p
    obtain ⟨h1, h2⟩ := hm l u rfl
    exact h1.lmax (h2.lmin1 (hx.mulN w))
theorem RowOk.at_ {X M N : Nat} {r : Row} {x : Rat} (h : RowOk X M r) (hx : In X N x) : In X M (r.at_ x) := shq_in h.m (hx.lmin h.b)
theorem tot_in {X M N : Nat} {x : Rat} (hx : In X N x) : ∀ {rows : List Row}, (∀ r ∈ rows, RowOk X M r) → In X (rows.length * M) (tot rows x)
  | [], _ => In.zero
  | r :: rows, h => by
    rw [tot_cons]
    have h1 := (h r List.mem_cons_self).at_ hx
    have h2 := tot_in hx (rows := rows) fun r hr => h r (List.mem_cons_of_mem _ hr)
    have h3 := h1.add h2
    rw [List.length_cons, Nat.add_mul, Nat.one_mul, Nat.add_comm]
    exact h3
theorem in_brk {D M : Nat} {r : Row} (h : RowOk D M r) : ∀ p ∈ r.brk, In (D * 27720) M p := by
  have hw : D * r.w ∣ D * 27720 := Nat.mul_dvd_mul_left D (by
    have a := h.w0
    have b := h.w12
    generalize r.w = w at a b
    have : w = 1 ∨ w = 2 ∨ w = 3 ∨ w = 4 ∨ w = 5 ∨ w = 6 ∨ w = 7 ∨ w = 8 ∨ w = 9 ∨ w = 10 ∨ w = 11 ∨ w = 12 := by omega
    rcases this with rfl | rfl | rfl | rfl | rfl | rfl | rfl | rfl | rfl | rfl | rfl | rfl <;> decide)
  intro p hp
  unfold Row.brk at hp
  split at hp
  · rw [List.mem_singleton.mp hp]
    exact h.b.up (Nat.dvd_mul_right _ _)
  · rename_i l u e
    obtain ⟨h1, h2⟩ := h.m l u e
    simp only [List.mem_cons, List.not_mem_nil, or_false] at hp
    rcases hp with rfl | rfl | rfl
    · exact (h1.divN h.w0).up hw
    · exact (h2.divN h.w0).up hw
    · exact h.b.up (Nat.dvd_mul_right _ _)
end Yk

set_option maxHeartbeats 4000000
namespace Yk
open PySem PySem.Spec PyProof.Rows L2

section
variable {K : PySem.W.Frag} {H H1 : Hp} {Q : VK}
def ManIs (K : PySem.W.Frag) (H : Hp) (v : V) : Option (Rat × Rat) → Prop
  | none => ∃ a, v = .ref a ∧ SqT K H a []
  | some p => ∃ a v1 v2, v = .ref a ∧ SqT K H a [v1, v2] ∧ Am K H v1 p.1 ∧ Am K H v2 p.2
theorem ManIs.x {S : List Addr} {v : V} {man : Option (Rat × Rat)} (e : Ext S H H1) (h : ManIs K H v man) (hs : ∀ b ∈ S, ∃ l, H b = some (.lst l)) : ManIs K H1 v man := by
  cases man with
  | none => obtain ⟨a, rfl, h⟩ := h; exact ⟨a, rfl, tupX e h hs⟩
  | some p => obtain ⟨a, v1, v2, rfl, h, a1, a2⟩ := h; exact ⟨a, v1, v2, rfl, tupX e h hs, a1.x e hs, a2.x e hs⟩
theorem ManIs.x0 {v : V} {man : Option (Rat × Rat)} (e : Ext [] H H1) (h : ManIs K H v man) : ManIs K H1 v man := h.x e fun _ z => nomatch z
def RowIs (K : PySem.W.Frag) (H : Hp) (v : V) (r : Row) : Prop := ∃ a mv bv, v = .ref a ∧ SqT K H a [mv, .int (r.w : Int), bv] ∧ ManIs K H mv r.man ∧ Am K H bv r.b
theorem RowIs.x {S : List Addr} {v : V} {r : Row} (e : Ext S H H1) (h : RowIs K H v r) (hs : ∀ b ∈ S, ∃ l, H b = some (.lst l)) : RowIs K H1 v r := by
  obtain ⟨a, mv, bv, rfl, h, h1, h2⟩ := h
  exact ⟨a, mv, bv, rfl, tupX e h hs, h1.x e hs, h2.x e hs⟩
theorem RowIs.x0 {v : V} {r : Row} (e : Ext [] H H1) (h : RowIs K H v r) : RowIs K H1 v r := h.x e fun _ z => nomatch z
def RowsIs (K : PySem.W.Frag) (H : Hp) (xs : List V) (rows : List Row) : Prop := Rel (RowIs K H) xs rows
theorem RowsIs.x {S : List Addr} {xs : List V} {rows : List Row} (e : Ext S H H1) (h : RowsIs K H xs rows) (hs : ∀ b ∈ S, ∃ l, H b = some (.lst l)) : RowsIs K H1 xs rows := h.imp fun _ _ z => z.x e hs
theorem RowsIs.x0 {xs : List V} {rows : List Row} (e : Ext [] H H1) (h : RowsIs K H xs rows) : RowsIs K H1 xs rows := h.imp fun _ _ z => z.x0 e
theorem bagS {b : Bag} (hb : BagAt K H b) : ∀ c ∈ [b.a], ∃ l, H c = some (.lst l) := fun c hc => by rw [List.mem_singleton.mp hc]; exact hb.lst
theorem lstS1 {c : Addr} {l : List V} (h : H c = some (.lst l)) : ∀ x ∈ [c], ∃ l, H x = some (.lst l) := fun x hx => by rw [List.mem_singleton.mp hx]; exact ⟨l, h⟩
theorem extW {c : Addr} {o : HO} : Ext [c] H (upd H c o) := Ext.refl.at_ List.mem_cons_self
theorem Am.w {c : Addr} {l l' : List V} {v : V} {q : Rat} (h : H c = some (.lst l)) (a : Am K H v q) : Am K (upd H c (.lst l')) v q := a.x extW (lstS1 h)
theorem Ams.w {c : Addr} {l l' : List V} {v : List V} {q : List Rat} (h : H c = some (.lst l)) (a : Ams K H v q) : Ams K (upd H c (.lst l')) v q := a.x extW (lstS1 h)
theorem RowIs.w {c : Addr} {l l' : List V} {v : V} {r : Row} (h : H c = some (.lst l)) (a : RowIs K H v r) : RowIs K (upd H c (.lst l')) v r := a.x extW (lstS1 h)
theorem RowsIs.w {c : Addr} {l l' : List V} {v : List V} {r : List Row} (h : H c = some (.lst l)) (a : RowsIs K H v r) : RowsIs K (upd H c (.lst l')) v r := a.x extW (lstS1 h)
/-! equality -/
theorem dp_am {v : V} {q : Rat} (h : Am K H v q) : Dp K H v (.tuple [.int q.num, .int (q.den : Int)]) := by
  obtain ⟨a, rfl, h⟩ := h
  exact .tup h (.cons (.int _) (.cons (.int _) .nil))
theorem rat_eq {p q : Rat} : p = q ↔ p.num = q.num ∧ p.den = q.den := ⟨fun h => by rw [h]; exact ⟨rfl, rfl⟩, fun h => Rat.ext h.1 h.2⟩
theorem eq_am {v w : V} {p q : Rat} (h : Am K H v p) (g : Am K H w q) (k : Q (.bl (decide (p = q))) H) : rEqD K v w H Q := by
  refine ⟨_, _, dp_am h, dp_am g, rfl, rfl, ?_⟩
  have e : PyData.eqv (.tuple [.int p.num, .int (p.den : Int)]) (.tuple [.int q.num, .int (q.den : Int)]) = decide (p = q) := by
    rw [Bool.eq_iff_iff]
    simp [PyData.eqv, PyData.eqvAll, rat_eq]
    omega
  rw [e]
  exact k
theorem ne_am {v w : V} {p q : Rat} (h : Am K H v p) (g : Am K H w q) (k : Q (.bl (!decide (p = q))) H) : rNeD K v w H Q := by
  refine ⟨_, _, dp_am h, dp_am g, rfl, rfl, ?_⟩
  have e : PyData.eqv (.tuple [.int p.num, .int (p.den : Int)]) (.tuple [.int q.num, .int (q.den : Int)]) = decide (p = q) := by
    rw [Bool.eq_iff_iff]
    simp [PyData.eqv, PyData.eqvAll, rat_eq]
    omega
  rw [e]
  exact k
theorem eq_man {v : V} {man : Option (Rat × Rat)} {p : Addr} (h : ManIs K H v man) (g : SqT K H p []) (k : Q (.bl man.isNone) H) : rEqD K v (.ref p) H Q := by
  cases man with
  | none => obtain ⟨a, rfl, h⟩ := h; exact ⟨.tuple [], .tuple [], .tup h .nil, .tup g .nil, rfl, rfl, k⟩
  | some q => obtain ⟨a, v1, v2, rfl, h, a1, a2⟩ := h; exact ⟨_, .tuple [], .tup h (.cons (dp_am a1) (.cons (dp_am a2) .nil)), .tup g .nil, rfl, rfl, k⟩
theorem ne_man {v : V} {man : Option (Rat × Rat)} {p : Addr} (h : ManIs K H v man) (g : SqT K H p []) (k : Q (.bl (!man.isNone)) H) : rNeD K v (.ref p) H Q := by
  cases man with
  | none => obtain ⟨a, rfl, h⟩ := h; exact ⟨.tuple [], .tuple [], .tup h .nil, .tup g .nil, rfl, rfl, k⟩
  | some q => obtain ⟨a, v1, v2, rfl, h, a1, a2⟩ := h; exact ⟨_, .tuple [], .tup h (.cons (dp_am a1) (.cons (dp_am a2) .nil)), .tup g .nil, rfl, rfl, k⟩
theorem am_nat {a : Addr} {w : Nat} (h : SqT K H a [.int (w : Int), .int 1]) : Am K H (.ref a) (w : Rat) := ⟨a, rfl, h⟩
theorem sz_nat {w m : Nat} (h : w < 2 ^ m) (h0 : 0 < m) : Sz m (w : Rat) := ⟨h, Nat.lt_of_lt_of_le (by decide : 1 < 2 ^ 1) (Nat.pow_le_pow_right (by decide) h0)⟩
theorem mk_w (w : Nat) {q : Rat} (h : 0 ≤ q) : mkRat ((w * q.num.toNat : Nat) : Int) q.den = (w : Rat) * q := by
  have hn := num_nn h
  have e : ((w * q.num.toNat : Nat) : Int) = (w : Int) * q.num := by push_cast; rw [Int.toNat_of_nonneg hn]
  rw [e, Rat.mkRat_eq_div]
  have hd := natP q.den_pos
  have e2 : (q.num : Rat) / (q.den : Rat) = q := by rw [← Rat.mkRat_eq_div]; exact Rat.mkRat_self q
  push_cast
  grind
theorem maxQ1 (a b : Rat) : maxQ a [b] = lmax a b := (lmax_eq a b).symm
theorem minQ1 (a b : Rat) : minQ a [b] = lmin a b := rfl
theorem lmin_comm (a b : Rat) : lmin a b = lmin b a := by unfold lmin; grind
theorem lmax_comm (a b : Rat) : lmax a b = lmax b a := by unfold lmax; grind
theorem k_min2 {v w : V} {p q : Rat} {E : XK} (a : Am K H v p) (b : Am K H w q) (z1 : Sz 4000 p) (z2 : Sz 4000 q) (k : ∀ v H', Ext [] H H' → Am K H' v (lmin p q) → Q v H') : spMin minQ K [v, w] H Q E :=
  ⟨p, [q], Ams.cons a (Ams.cons b Ams.nil), fun x hx => by
    rcases List.mem_cons.mp hx with rfl | hx
    · exact z1
    · rw [List.mem_singleton.mp hx]; exact z2, by simp, k⟩
theorem k_max2 {v w : V} {p q : Rat} {E : XK} (a : Am K H v p) (b : Am K H w q) (z1 : Sz 4000 p) (z2 : Sz 4000 q) (k : ∀ v H', Ext [] H H' → Am K H' v (lmax p q) → Q v H') : spMin maxQ K [v, w] H Q E :=
  ⟨p, [q], Ams.cons a (Ams.cons b Ams.nil), fun x hx => by
    rcases List.mem_cons.mp hx with rfl | hx
    · exact z1
    · rw [List.mem_singleton.mp hx]; exact z2, by simp, fun v H' e c => k v H' e (by rw [← maxQ1]; exact c)⟩
theorem sz_min {m : Nat} {p q : Rat} (h : Sz m p) (g : Sz m q) : Sz m (lmin p q) := by unfold lmin; split <;> assumption
theorem sz_max {m : Nat} {p q : Rat} (h : Sz m p) (g : Sz m q) : Sz m (lmax p q) := by unfold lmax; split <;> assumption
end
section
variable {P : Program} {w : World} {K : PySem.W.Frag} {mg : Str → Option Value} {base : Heap} {f : Addr} {fd : FuncData}
def ManSz (n : Nat) (man : Option (Rat × Rat)) : Prop := ∀ l u, man = some (l, u) → Sz n l ∧ Sz n u
def spShare (K : PySem.W.Frag) : Sp := fun vs H Q _ => ∃ (m x : V) (wt : Nat) (man : Option (Rat × Rat)) (q : Rat), vs = [m, .int (wt : Int), x] ∧ ManIs K H m man ∧ Am K H x q ∧ wt ≤ 12 ∧ ManSz 2000 man ∧ Sz 2000 q ∧ RetAm K H Q (shq man wt q)
abbrev s_share : Stmt := top 26
theorem c_share : FnScope ["manner", "weight", "level", "least", "most"] ["manner", "weight", "level"] (defScope s_share) := ⟨rfl, rfl, rfl, by decide +kernel, rfl, by decide +kernel, by decide +kernel⟩
theorem f_share (F : FunD K "share" "share" (defArgs s_share) (defBody s_share) (defScope s_share) [] [] f fd) (hm : mg "share" = some (.ref f)) (TZ : ∃ z, mg "ZERO" = some (.ref z) ∧ ∀ H, SqT K H z [.int 0, .int 1]) (Ftimes : Fn P w K mg base 2 "times" (spTimes K)) (Fsmallest : Fn P w K mg base 2 "smallest" (spMin minQ K)) (Flargest : Fn P w K mg base 2 "largest" (spMin maxQ K)) : FnOk P w K mg base CX0 3 f fd ["manner", "weight", "level"] (spShare K) := by
  refine ok_def F c_share (fun vs H Q E h => ?_) (fun cdv A outer s H vs Q E hr h => ?_)
  · obtain ⟨m, x, wt, man, q, rfl, _⟩ := h
    rfl
  · obtain ⟨m, x, wt, man, q, rfl, hm, hx, h12, zm, zx, k⟩ := h
    have nd := c_share.nd
    obtain ⟨z, mz, hz⟩ := TZ
    refine ⟨_, (pss_cons (ps_if (pt_cmpR (op_eqD hr.units) (pv 0) (pe_tup pa_nil) (nomark _))
        (pss_one (ps_ret (pe_glob (v := .ref z) rfl mz rfl)))
        pss_nil)
      (pss_cons (ps_asg (pv 0) (pg_tup rfl (pgs_cons (pg_name (i := 3) nd rfl (by first | exact Or.inl rfl | exact Or.inr rfl)) (pgs_cons (pg_name (i := 4) nd rfl (by first | exact Or.inl rfl | exact Or.inr rfl)) pgs_nil))))
      (pss_one (ps_ret (pe_fn Flargest (hr.mono (by decide)) (pa_cons (pv 3) (pa_cons (pe_fn Fsmallest (hr.mono (by decide)) (pa_cons (pv 4) (pa_cons (pe_fn Ftimes (hr.mono (by decide)) (pa_cons (pe_tup (pa_cons (pv 1) (pa_cons pe_int pa_nil))) (pa_cons (pv 2) pa_nil))) pa_nil))) pa_nil))))))), ?_⟩
    show (_ : TS) _ [some _, some _, some _, none, none] _
    try dsimp only [cxOf, Cx.nox]
    walk_at "go"
    refine eq_man (hm.x0 (Ext.refl.new (by assumption))) tupS ?_
    walk_at "go"
    cases man with
    | none =>
      walk_at "run"
      exact k _ _ (by walk_at "ext") ⟨z, rfl, hz _⟩
    | some p =>
      obtain ⟨l, u⟩ := p
      obtain ⟨zl, zu⟩ := zm l u rfl
      obtain ⟨a, v1, v2, rfl, ht, a1, a2⟩ := hm
      walk_at "run"
      refine k_times (am_nat tupS) (by walk_at "am") ((sz_nat (m := 4) (by omega) (by decide)).mono (by decide)) (zx.mono (by decide)) fun v3 H3 n3 a3 => ?_
      walk_at "go"
      have z3 : Sz 2004 ((wt : Rat) * q) := (sz_mul (sz_nat (m := 4) (by omega) (by decide)) zx).mono (by decide)
      refine k_min2 (by walk_at "am") a3 (zu.mono (by decide)) (z3.mono (by decide)) fun v4 H4 n4 a4 => ?_
      walk_at "go"
      have z4 : Sz 4000 (lmin u ((wt : Rat) * q)) := sz_min (zu.mono (by decide)) (z3.mono (by decide))
      refine k_max2 (by walk_at "am") a4 (zl.mono (by decide)) z4 fun v5 H5 n5 a5 => ?_
      walk_at "go"
      exact k _ _ (by walk_at "ext") a5
/-- rows of shares, carried through a list of them -/
theorem rowSz {X M j m : Nat} {r : Row} (h : RowOk X M r) (h0 : 0 < X) (hX : X ≤ 2 ^ j) (hM : M ≤ 2 ^ m) : ManSz (j + m + 1) r.man ∧ Sz (j + m + 1) r.b := ⟨fun l u e => ⟨(h.m l u e).1.sz h0 hX hM, (h.m l u e).2.sz h0 hX hM⟩, h.b.sz h0 hX hM⟩
/-- amounts in the row, all in step -/
structure TotOk (X M N : Nat) (rows : List Row) (x : Rat) : Prop where
  X0 : 0 < X
  X9 : X ≤ 2 ^ 400
  M9 : M ≤ 2 ^ 20
  N9 : N ≤ 2 ^ 120
  row : ∀ r ∈ rows, RowOk X M r
  x : In X N x
  n : rows.length ≤ 8
def spTotal (K : PySem.W.Frag) : Sp := fun vs H Q _ => ∃ (a : Addr) (xs : List V) (rows : List Row) (v : V) (x : Rat) (X M N : Nat), vs = [.ref a, v] ∧ SqQ K H a xs ∧ RowsIs K H xs rows ∧ Am K H v x ∧ TotOk X M N rows x ∧ RetAm K H Q (tot rows x)
theorem take_map {α : Type} {f : Row → α} {rows : List Row} {i : Nat} {r : Row} (h : rows[i]? = some r) : (rows.take (i + 1)).map f = (rows.take i).map f ++ [f r] := by
  obtain ⟨hl, e⟩ := List.getElem?_eq_some_iff.mp h
  rw [← List.take_append_getElem hl, List.map_append, e]
  rfl
end
end Yk

set_option maxHeartbeats 4000000
namespace Yk
open PySem PySem.Spec PyProof.Rows L2
/-! Dicts: the general part. What stands through a lock, walks over keys, values and items, comprehensions; tables. -/
/-! What stands through the lock of a dict. -/
theorem tupD {K : PySem.W.Frag} {H H1 : Hp} {a t : Addr} {kv : List (Key × V)} {xs : List V} (e : Ext [a] H H1) (ha : H a = some (.dK kv)) (h : SqT K H t xs) : SqT K H1 t xs := by
  have ne : ∀ o, H t = some o → (∀ kv, o ≠ .dK kv) → t ∉ [a] := fun o ho hn z => by
    rw [List.mem_singleton.mp z, ha] at ho
    exact hn _ (Option.some.inj ho).symm
  rcases h with (h | ⟨o, h⟩) | h
  · exact .inl (.inl (e _ _ h (ne _ h fun _ z => nomatch z)))
  · exact .inl (.inr ⟨o, e _ _ h (ne _ h fun _ z => nomatch z)⟩)
  · exact .inr h
theorem Am.d {K : PySem.W.Frag} {H H1 : Hp} {a : Addr} {kv : List (Key × V)} {v : V} {q : Rat} (e : Ext [a] H H1) (ha : H a = some (.dK kv)) (h : Am K H v q) : Am K H1 v q := by
  obtain ⟨t, rfl, h⟩ := h
  exact ⟨t, rfl, tupD e ha h⟩
theorem sqqD {K : PySem.W.Frag} {H H1 : Hp} {a t : Addr} {kv : List (Key × V)} {xs : List V} (e : Ext [a] H H1) (ha : H a = some (.dK kv)) (h : SqQ K H t xs) : SqQ K H1 t xs := by
  rcases h with h | h
  · refine .inl ?_
    have ne : ∀ o, H t = some o → (∀ kv, o ≠ .dK kv) → t ∉ [a] := fun o ho hn z => by
      rw [List.mem_singleton.mp z, ha] at ho
      exact hn _ (Option.some.inj ho).symm
    rcases h with (h | ⟨o, h⟩) | h
    · exact .inl (.inl (e _ _ h (ne _ h fun _ z => nomatch z)))
    · exact .inl (.inr ⟨o, e _ _ h (ne _ h fun _ z => nomatch z)⟩)
    · exact .inr h
  · exact .inr (tupD e ha h)
theorem Ams.d {K : PySem.W.Frag} {H H1 : Hp} {a : Addr} {kv : List (Key × V)} {vs : List V} {qs : List Rat} (e : Ext [a] H H1) (ha : H a = some (.dK kv)) (h : Ams K H vs qs) : Ams K H1 vs qs := ⟨h.1, fun i v q a b => (h.2 i v q a b).d e ha⟩
/-- no tuple stands at these -/
def NoTup (H : Hp) (S : List Addr) : Prop := ∀ b ∈ S, ∃ o, H b = some o ∧ (∀ xs, o ≠ .tup xs) ∧ ∀ u xs, o ≠ .frz u (.tup xs)
theorem tupF {S : List Addr} {K : PySem.W.Frag} {H H1 : Hp} {a : Addr} {xs : List V} (e : Ext S H H1) (h : SqT K H a xs) (hs : NoTup H S) : SqT K H1 a xs := by
  rcases h with (h | ⟨o, h⟩) | h
  · exact .inl (.inl (e a _ h fun z => by obtain ⟨o, q, n, _⟩ := hs a z; rw [h] at q; cases q; exact n _ rfl))
  · exact .inl (.inr ⟨o, e a _ h fun z => by obtain ⟨o, q, _, n⟩ := hs a z; rw [h] at q; cases q; exact n _ _ rfl⟩)
  · exact .inr h
theorem Am.f {S : List Addr} {K : PySem.W.Frag} {H H1 : Hp} {v : V} {q : Rat} (e : Ext S H H1) (hs : NoTup H S) (h : Am K H v q) : Am K H1 v q := by
  obtain ⟨a, rfl, h⟩ := h
  exact ⟨a, rfl, tupF e h hs⟩
/-- no list stands at these -/
def NoLst (H : Hp) (S : List Addr) : Prop := ∀ b ∈ S, ∃ o, H b = some o ∧ (∀ xs, o ≠ .lst xs) ∧ ∀ u xs, o ≠ .frz u (.lst xs)
theorem lstF {S : List Addr} {K : PySem.W.Frag} {H H1 : Hp} {a : Addr} {xs : List V} (e : Ext S H H1) (h : SqL K H a xs) (hs : NoLst H S) : SqL K H1 a xs := by
  rcases h with (h | ⟨o, h⟩) | h
  · exact .inl (.inl (e a _ h fun z => by obtain ⟨o, q, n, _⟩ := hs a z; rw [h] at q; cases q; exact n _ rfl))
  · exact .inl (.inr ⟨o, e a _ h fun z => by obtain ⟨o, q, _, n⟩ := hs a z; rw [h] at q; cases q; exact n _ _ rfl⟩)
  · exact .inr h
theorem BagAt.f {S : List Addr} {K : PySem.W.Frag} {H H1 : Hp} {b : Bag} (h : BagAt K H b) (e : Ext S H H1) (hs : NoLst H S) : BagAt K H1 b := by
  obtain ⟨l, h1, h2, h3, h4⟩ := h.ex
  exact ⟨l, e _ _ h1 fun z => (by obtain ⟨o, q, n, _⟩ := hs _ z; rw [h1] at q; cases q; exact n _ rfl), lstF e h2 hs, h3, h4⟩
theorem no_ins {H : Hp} {a C dx : Addr} {fs : List (Str × V)} (h : H a = some (.ins C dx fs)) : NoTup H [a] ∧ NoLst H [a] :=
  ⟨fun b hb => by rw [List.mem_singleton.mp hb]; exact ⟨_, h, (fun _ z => nomatch z), fun _ _ z => nomatch z⟩, fun b hb => by rw [List.mem_singleton.mp hb]; exact ⟨_, h, (fun _ z => nomatch z), fun _ _ z => nomatch z⟩⟩
theorem no_dk {H : Hp} {a : Addr} {l : List (Key × V)} (h : H a = some (.dK l)) : NoTup H [a] ∧ NoLst H [a] :=
  ⟨fun b hb => by rw [List.mem_singleton.mp hb]; exact ⟨_, h, (fun _ z => nomatch z), fun _ _ z => nomatch z⟩, fun b hb => by rw [List.mem_singleton.mp hb]; exact ⟨_, h, (fun _ z => nomatch z), fun _ _ z => nomatch z⟩⟩
theorem no_lst {H : Hp} {a : Addr} {l : List V} (h : H a = some (.lst l)) : NoTup H [a] := fun b hb => by rw [List.mem_singleton.mp hb]; exact ⟨_, h, (fun _ z => nomatch z), fun _ _ z => nomatch z⟩
theorem NoTup.app {H : Hp} {S T : List Addr} (h : NoTup H S) (g : NoTup H T) : NoTup H (S ++ T) := fun b hb => (List.mem_append.mp hb).elim (h b) (g b)
/-- a table by keys -/
def gv {κ α : Type} [DecidableEq κ] (c : List (κ × α)) (k : κ) : Option α := (c.find? fun p => decide (p.1 = k)).map (·.2)
def gp {κ α : Type} [DecidableEq κ] (c : List (κ × α)) (k : κ) (y : α) : List (κ × α) := if (c.any fun p => decide (p.1 = k)) = true then c.map (fun p => if p.1 = k then (p.1, y) else p) else c ++ [(k, y)]
/-- two tables with the same keys, their values alike -/
inductive TR {κ α : Type} (R : V → α → Prop) : List (κ × V) → List (κ × α) → Prop
  | nil : TR R [] []
  | cons {k : κ} {v : V} {y : α} {l : List (κ × V)} {c : List (κ × α)} : R v y → TR R l c → TR R ((k, v) :: l) ((k, y) :: c)
section
variable {κ α : Type} [DecidableEq κ] {R R' : V → α → Prop} {l : List (κ × V)} {c : List (κ × α)} {k : κ} {v : V} {y : α}
theorem TR.imp (f : ∀ v y, R v y → R' v y) (h : TR R l c) : TR R' l c := by
  induction h with
  | nil => exact .nil
  | cons a _ ih => exact .cons (f _ _ a) ih
theorem TR.len (h : TR R l c) : l.length = c.length := by
  induction h with
  | nil => rfl
  | cons a _ ih => simp [ih]
theorem TR.val (h : TR R l c) (k : κ) : (valV l k = none ∧ gv c k = none) ∨ ∃ v y, valV l k = some v ∧ gv c k = some y ∧ R v y := by
  induction h with
  | nil => exact .inl ⟨rfl, rfl⟩
  | @cons k' v y l c a _ ih =>
    by_cases e : k' = k
    · subst e
      exact .inr ⟨v, y, valV_pos rfl, by simp [gv], a⟩
    · have e1 : gv ((k', y) :: c) k = gv c k := by simp [gv, List.find?_cons, e]
      rw [valV_neg (p := (k', v)) e, e1]
      exact ih
theorem TR.any (h : TR R l c) (k : κ) : (l.any fun p => decide (p.1 = k)) = (c.any fun p => decide (p.1 = k)) := by
  induction h with
  | nil => rfl
  | cons a _ ih => rw [List.any_cons, List.any_cons, ih]
theorem TR.repl (h : TR R l c) (a : R v y) : TR R (l.map fun kv => if kv.1 = k then (kv.1, v) else kv) (c.map fun p => if p.1 = k then (p.1, y) else p) := by
  induction h with
  | nil => exact .nil
  | @cons k' v' y' l c b _ ih =>
    rw [List.map_cons, List.map_cons]
    by_cases e : k' = k
    · rw [if_pos e, if_pos e]; exact .cons a ih
    · rw [if_neg e, if_neg e]; exact .cons b ih
theorem TR.app {l2 : List (κ × V)} {c2 : List (κ × α)} (h : TR R l c) (g : TR R l2 c2) : TR R (l ++ l2) (c ++ c2) := by
  induction h with
  | nil => exact g
  | cons b _ ih => exact .cons b ih
theorem TR.put (h : TR R l c) (a : R v y) : TR R (putK l k v) (gp c k y) := by
  unfold putK gp
  rw [h.any k]
  split
  · exact h.repl a
  · exact h.app (.cons a .nil)
end
section
variable {K : PySem.W.Frag} {H : Hp} {Q : VK} {σ : L2.St} {wi : TI} {g : TG} {tt : TT} {tk tv td ty : TE} {vs : List Nat}
theorem r_dget (h : td σ H fun x H1 => ty σ H1 fun y H2 => ∃ a v, x = .ref a ∧ DGet H2 a y (some v) ∧ Q v H2) : tDGet td ty σ H Q := h
theorem r_dc (h : wi σ H fun J H1 => ∀ D, H1 D = none → ∃ W : Nat → Nat → Hp → Prop, (∃ m, W 0 m (upd H1 D (.dK []))) ∧ ∀ i m H, W i m H →
  (J.stop i H ∧ Q (.ref D) H) ∨ (J.go i H ∧ ∃ Nx : Hp → Prop, (∀ H', Nx H' → ∃ m', m' < m ∧ W (i + 1) m' H') ∧ ∀ x H', J.yld i H x H' → g x (wipe σ vs) H' fun σ2 H2 => wipe σ2 vs = wipe σ vs ∧ tt σ2 H2 fun b H3 =>
    if b = true then tk σ2 H3 fun y H4 => tv σ2 H4 fun z H5 => ∃ kvs k, y = kV k ∧ H5 D = some (.dK kvs) ∧ kvs.length < sizeLine ∧ Nx (upd H5 D (.dK (putK kvs k z))) else Nx H3)) : tDc wi g tt tk tv vs σ H Q := h
theorem r_dcL {a : Addr} {xs : List V} {D : Addr} {Qd : Hp → Prop} (Pv : Nat → Hp → Prop) (h0 : Pv 0 (upd H D (.dK []))) (hl : ∀ i H, i ≤ xs.length → Pv i H → SqL K H a xs)
    (hs : ∀ i x H, xs[i]? = some x → Pv i H → g x (wipe σ vs) H fun σ2 H2 => wipe σ2 vs = wipe σ vs ∧ tt σ2 H2 fun b H3 =>
      if b = true then tk σ2 H3 fun y H4 => tv σ2 H4 fun z H5 => ∃ kvs k, y = kV k ∧ H5 D = some (.dK kvs) ∧ kvs.length < sizeLine ∧ Pv (i + 1) (upd H5 D (.dK (putK kvs k z))) else Pv (i + 1) H3) (hd : ∀ H, Pv xs.length H → Qd H) :
    ∃ W : Nat → Nat → Hp → Prop, (∃ m, W 0 m (upd H D (.dK []))) ∧ ∀ i m H, W i m H →
      ((Itl K a).stop i H ∧ Qd H) ∨ ((Itl K a).go i H ∧ ∃ Nx : Hp → Prop, (∀ H', Nx H' → ∃ m', m' < m ∧ W (i + 1) m' H') ∧ ∀ x H', (Itl K a).yld i H x H' → g x (wipe σ vs) H' fun σ2 H2 => wipe σ2 vs = wipe σ vs ∧ tt σ2 H2 fun b H3 =>
        if b = true then tk σ2 H3 fun y H4 => tv σ2 H4 fun z H5 => ∃ kvs k, y = kV k ∧ H5 D = some (.dK kvs) ∧ kvs.length < sizeLine ∧ Nx (upd H5 D (.dK (putK kvs k z))) else Nx H3) := by
  refine ⟨fun i m H => m = xs.length - i ∧ i ≤ xs.length ∧ Pv i H, ⟨xs.length, by simp, Nat.zero_le _, h0⟩, ?_⟩
  rintro i m H ⟨rfl, hi, p⟩
  have q := hl i H hi p
  by_cases hlt : i < xs.length
  · refine .inr ⟨⟨xs, xs[i], q, by simp [hlt]⟩, Pv (i + 1), fun H' p' => ⟨xs.length - (i + 1), by omega, rfl, hlt, p'⟩, fun x H' y => ?_⟩
    obtain ⟨e, y⟩ := y
    subst e
    exact hs i x _ (y xs q) p
  · have e : i = xs.length := by omega
    subst e
    exact .inl ⟨⟨xs, q, Nat.le_refl _⟩, hd H p⟩
end
section
variable {nx : L2.St → Hp → Prop} {rt : VK} {bk ct : L2.St → Hp → Prop} {σ : L2.St} {H : Hp} {g : TG} {t : TS} {td ty : TE} {Q : VK}
theorem r_lock {d : Addr} {kv : List (Key × V)} (hd : H d = some (.dK kv)) (h : ∀ od, t ⟨fun σ' H' => H' d = some (.frz od (.dK kv)) ∧ nx σ' (upd H' d (.dK kv)), fun v H' => H' d = some (.frz od (.dK kv)) ∧ rt v (upd H' d (.dK kv)), fun σ' H' => H' d = some (.frz od (.dK kv)) ∧ bk σ' (upd H' d (.dK kv)), fun σ' H' => H' d = some (.frz od (.dK kv)) ∧ ct σ' (upd H' d (.dK kv))⟩ σ (upd H d (.frz od (.dK kv)))) :
    tLock t ⟨nx, rt, bk, ct⟩ σ H := ⟨d, _, hd, trivial, h⟩
theorem r_iVals {R : It → Hp → Prop} (h : td σ H fun x H1 => ∃ d o kvs, x = .ref d ∧ H1 d = some (.frz o (.dK kvs)) ∧ R (Itd d o kvs) H1) : iVals td σ H R := h
theorem r_dnotin (h : ty σ H fun y H1 => td σ H1 fun x H2 => ∃ a o, x = .ref a ∧ DGet H2 a y o ∧ Q (.bl (!o.isSome)) H2) : tDNotIn ty td σ H Q := h
theorem r_din (h : ty σ H fun y H1 => td σ H1 fun x H2 => ∃ a o, x = .ref a ∧ DGet H2 a y o ∧ Q (.bl o.isSome) H2) : tDIn ty td σ H Q := h
theorem r_loopD {d : Addr} {o : Obj} {kv : List (Key × V)} (Pv : Nat → L2.St → Hp → Prop) (h0 : Pv 0 σ H) (hl : ∀ i σ H, i ≤ kv.length → Pv i σ H → H d = some (.frz o (.dK kv)))
    (hs : ∀ (i : Nat) (k : Key) (x : V) (σ : L2.St) (H : Hp), kv[i]? = some (k, x) → Pv i σ H → g x σ H fun σ2 H2 => t ⟨Pv (i + 1), rt, nx, Pv (i + 1)⟩ σ2 H2) (hd : ∀ σ H, Pv kv.length σ H → nx σ H) :
    ∃ W : Nat → Nat → L2.St → Hp → Prop, (∃ m, W 0 m σ H) ∧ ∀ i m σ H, W i m σ H →
      ((Itd d o kv).stop i H ∧ nx σ H) ∨ ((Itd d o kv).go i H ∧ ∃ N : L2.St → Hp → Prop, (∀ σ' H', N σ' H' → ∃ m', m' < m ∧ W (i + 1) m' σ' H') ∧ ∀ x H', (Itd d o kv).yld i H x H' → g x σ H' fun σ2 H2 => t ⟨N, rt, nx, N⟩ σ2 H2) :=
  for_it (D := ⟨nx, rt, nx, nx⟩) walk_values Pv h0 hl (fun i x σ H H' _ p y => by
    obtain ⟨rfl, k, hk⟩ := y
    exact hs i k x σ _ hk p) hd
/-- a dict that was locked stands as before -/
theorem ext_unlock {d : Addr} {u : HO} {H1 : Hp} (hd : H d = some u) (e : Ext [d] H H1) : Ext [] H (upd H1 d u) := fun b o hb _ => by
  by_cases q : d = b
  · subst q
    rw [hd] at hb
    rw [upd_same]
    exact hb
  · rw [upd_ne (Ne.symm q)]
    exact e b o hb fun z => q (List.mem_singleton.mp z).symm
end
section
variable {K : PySem.W.Frag} {H : Hp} {Q : VK} {σ : L2.St} {td : TE} {te : TE} {g : TG} {tt : TT} {vs : List Nat}
theorem r_lockE {t : TE} {d : Addr} {kv : List (Key × V)} (hd : H d = some (.dK kv)) (h : ∀ od, t σ (upd H d (.frz od (.dK kv))) fun v H' => H' d = some (.frz od (.dK kv)) ∧ Q v (upd H' d (.dK kv))) : tLockE t σ H Q := ⟨d, _, hd, trivial, h⟩
theorem r_iItems {R : It → Hp → Prop} (h : td σ H fun x H1 => ∃ d o kvs, x = .ref d ∧ H1 d = some (.frz o (.dK kvs)) ∧ R (Iti d o kvs) H1) : iItems td σ H R := h
theorem r_lcI {d : Addr} {o : Obj} {kv : List (Key × V)} {D : Addr} {Qd : Hp → Prop} (Pv : Nat → Hp → Prop) (h0 : Pv 0 (upd H D (.lst []))) (hl : ∀ i H, i ≤ kv.length → Pv i H → H d = some (.frz o (.dK kv)))
    (hs : ∀ (i : Nat) (k : Key) (x : V) (T : Addr) (H : Hp), kv[i]? = some (k, x) → Pv i H → H T = none → g (.ref T) (wipe σ vs) (upd H T (.tup [kV k, x])) fun σ2 H2 => wipe σ2 vs = wipe σ vs ∧ tt σ2 H2 fun b H3 =>
      if b = true then te σ2 H3 fun y H4 => ∃ acc, H4 D = some (.lst acc) ∧ acc.length < sizeLine ∧ Pv (i + 1) (upd H4 D (.lst (acc ++ [y]))) else Pv (i + 1) H3) (hd : ∀ H, Pv kv.length H → Qd H) :
    ∃ W : Nat → Nat → Hp → Prop, (∃ m, W 0 m (upd H D (.lst []))) ∧ ∀ i m H, W i m H →
      ((Iti d o kv).stop i H ∧ Qd H) ∨ ((Iti d o kv).go i H ∧ ∃ Nx : Hp → Prop, (∀ H', Nx H' → ∃ m', m' < m ∧ W (i + 1) m' H') ∧ ∀ x H', (Iti d o kv).yld i H x H' → g x (wipe σ vs) H' fun σ2 H2 => wipe σ2 vs = wipe σ vs ∧ tt σ2 H2 fun b H3 =>
        if b = true then te σ2 H3 fun y H4 => ∃ acc, H4 D = some (.lst acc) ∧ acc.length < sizeLine ∧ Nx (upd H4 D (.lst (acc ++ [y]))) else Nx H3) :=
  lc_it walk_items Pv h0 hl (fun i x H H' hi p y => by
    obtain ⟨T, a, b, rfl, hT, rfl, ha, hb⟩ := y
    dsimp only at ha hb
    rw [List.getElem?_eq_getElem hi] at ha hb
    obtain rfl := Option.some.inj ha
    obtain rfl := Option.some.inj hb
    exact hs i kv[i].1 kv[i].2 T H (List.getElem?_eq_getElem hi) p hT) hd
end
section
variable {K : PySem.W.Frag} {nx : L2.St → Hp → Prop} {rt : VK} {σ : L2.St} {H : Hp} {g : TG} {tt : TT} {tk tv : TE} {t : TS} {vs : List Nat}
theorem r_dcK {d : Addr} {o : Obj} {kv : List (Key × V)} {D : Addr} {Qd : Hp → Prop} (Pv : Nat → Hp → Prop) (h0 : Pv 0 (upd H D (.dK []))) (hl : ∀ i H, i ≤ kv.length → Pv i H → H d = some (.frz o (.dK kv)))
    (hs : ∀ (i : Nat) (k : Key) (x : V) (H : Hp), kv[i]? = some (k, x) → Pv i H → g (kV k) (wipe σ vs) H fun σ2 H2 => wipe σ2 vs = wipe σ vs ∧ tt σ2 H2 fun b H3 =>
      if b = true then tk σ2 H3 fun y H4 => tv σ2 H4 fun z H5 => ∃ kvs k, y = kV k ∧ H5 D = some (.dK kvs) ∧ kvs.length < sizeLine ∧ Pv (i + 1) (upd H5 D (.dK (putK kvs k z))) else Pv (i + 1) H3) (hd : ∀ H, Pv kv.length H → Qd H) :
    ∃ W : Nat → Nat → Hp → Prop, (∃ m, W 0 m (upd H D (.dK []))) ∧ ∀ i m H, W i m H →
      ((Itk d o kv).stop i H ∧ Qd H) ∨ ((Itk d o kv).go i H ∧ ∃ Nx : Hp → Prop, (∀ H', Nx H' → ∃ m', m' < m ∧ W (i + 1) m' H') ∧ ∀ x H', (Itk d o kv).yld i H x H' → g x (wipe σ vs) H' fun σ2 H2 => wipe σ2 vs = wipe σ vs ∧ tt σ2 H2 fun b H3 =>
        if b = true then tk σ2 H3 fun y H4 => tv σ2 H4 fun z H5 => ∃ kvs k, y = kV k ∧ H5 D = some (.dK kvs) ∧ kvs.length < sizeLine ∧ Nx (upd H5 D (.dK (putK kvs k z))) else Nx H3) := by
  refine ⟨fun i m H => m = kv.length - i ∧ i ≤ kv.length ∧ Pv i H, ⟨kv.length, by simp, Nat.zero_le _, h0⟩, ?_⟩
  rintro i m H ⟨rfl, hi, p⟩
  have q := hl i H hi p
  by_cases hlt : i < kv.length
  · refine .inr ⟨⟨q, hlt⟩, Pv (i + 1), fun H' p' => ⟨kv.length - (i + 1), by omega, rfl, hlt, p'⟩, fun x H' y => ?_⟩
    obtain ⟨rfl, k, v, hk, rfl⟩ := y
    exact hs i k v _ hk p
  · have e : i = kv.length := by omega
    subst e
    exact .inl ⟨⟨q, Nat.le_refl _⟩, hd H p⟩
theorem r_loopI {d : Addr} {o : Obj} {kv : List (Key × V)} (Pv : Nat → L2.St → Hp → Prop) (h0 : Pv 0 σ H) (hl : ∀ i σ H, i ≤ kv.length → Pv i σ H → H d = some (.frz o (.dK kv)))
    (hs : ∀ (i : Nat) (k : Key) (x : V) (T : Addr) (σ : L2.St) (H : Hp), kv[i]? = some (k, x) → Pv i σ H → H T = none → g (.ref T) σ (upd H T (.tup [kV k, x])) fun σ2 H2 => t ⟨Pv (i + 1), rt, nx, Pv (i + 1)⟩ σ2 H2) (hd : ∀ σ H, Pv kv.length σ H → nx σ H) :
    ∃ W : Nat → Nat → L2.St → Hp → Prop, (∃ m, W 0 m σ H) ∧ ∀ i m σ H, W i m σ H →
      ((Iti d o kv).stop i H ∧ nx σ H) ∨ ((Iti d o kv).go i H ∧ ∃ N : L2.St → Hp → Prop, (∀ σ' H', N σ' H' → ∃ m', m' < m ∧ W (i + 1) m' σ' H') ∧ ∀ x H', (Iti d o kv).yld i H x H' → g x σ H' fun σ2 H2 => t ⟨N, rt, nx, N⟩ σ2 H2) := by
  refine ⟨fun i m σ H => m = kv.length - i ∧ i ≤ kv.length ∧ Pv i σ H, ⟨kv.length, by simp, Nat.zero_le _, h0⟩, ?_⟩
  rintro i m σ H ⟨rfl, hi, p⟩
  have q := hl i σ H hi p
  by_cases hlt : i < kv.length
  · refine .inr ⟨⟨q, hlt⟩, Pv (i + 1), fun σ' H' p' => ⟨kv.length - (i + 1), by omega, rfl, hlt, p'⟩, fun x H' y => ?_⟩
    obtain ⟨T, k, v, hk, rfl, hT, rfl⟩ := y
    exact hs i k v T σ _ hk p hT
  · have e : i = kv.length := by omega
    subst e
    exact .inl ⟨⟨q, Nat.le_refl _⟩, hd σ H p⟩
end
section
variable {K : PySem.W.Frag} {nx : L2.St → Hp → Prop} {rt : VK} {bk ct : L2.St → Hp → Prop} {σ : L2.St} {H : Hp} {Q : VK} {td ty tv tx : TE}
theorem r_tget1 (h : td σ H fun x H1 => ∃ a, x = .ref a ∧ IsD H1 a ∧ ty σ H1 fun y H2 => ∃ o, DGet H2 a y o ∧ Q (o.getD .non) H2) : tDGet1 td ty σ H Q := h
theorem r_tget2 (h : td σ H fun x H1 => ∃ a, x = .ref a ∧ IsD H1 a ∧ ty σ H1 fun y H2 => tx σ H2 fun z H3 => ∃ o, DGet H3 a y o ∧ Q (o.getD z) H3) : tDGet2 td ty tx σ H Q := h
theorem r_prp2 {C a dx : Addr} {fs : List (Str × V)} {R : Addr → Prop} (h1 : H a = some (.ins C dx fs)) (h : R a) : ∃ a' dx' fs', V.ref a = .ref a' ∧ H a' = some (.ins C dx' fs') ∧ R a' := ⟨a, dx, fs, rfl, h1, h⟩
theorem r_dnT (h : ∀ p, H p = none → Q (.ref p) (upd H p (.dT []))) : tDNewT σ H Q := h
theorem r_dput (h : tv σ H fun v H1 => td σ H1 fun x H2 => ty σ H2 fun y H3 => ∃ a H4, x = .ref a ∧ DPut H3 a y v H4 ∧ nx σ H4) : sDPut td ty tv ⟨nx, rt, bk, ct⟩ σ H := h
end
theorem upd_over {H : Hp} {a d : Addr} {x y z : HO} (h : d ≠ a) : upd (upd (upd H a x) d y) a z = upd (upd H d y) a z := by
  funext b
  by_cases q : b = a
  · subst q; rw [upd_same, upd_same]
  · by_cases p : b = d
    · subst p; rw [upd_ne q, upd_same, upd_ne q, upd_same]
    · rw [upd_ne q, upd_ne p, upd_ne q, upd_ne q, upd_ne p]
section
variable {K : PySem.W.Frag} {nx : L2.St → Hp → Prop} {rt : VK} {bk ct : L2.St → Hp → Prop} {σ : L2.St} {H : Hp} {Q : VK} {g : TG} {tt : TT} {tk tv te td : TE} {vs : List Nat} {ta : TA}
theorem r_dcI {d : Addr} {o : Obj} {kv : List (Key × V)} {D : Addr} {Qd : Hp → Prop} (Pv : Nat → Hp → Prop) (h0 : Pv 0 (upd H D (.dK []))) (hl : ∀ i H, i ≤ kv.length → Pv i H → H d = some (.frz o (.dK kv)))
    (hs : ∀ (i : Nat) (k : Key) (x : V) (T : Addr) (H : Hp), kv[i]? = some (k, x) → Pv i H → H T = none → g (.ref T) (wipe σ vs) (upd H T (.tup [kV k, x])) fun σ2 H2 => wipe σ2 vs = wipe σ vs ∧ tt σ2 H2 fun b H3 =>
      if b = true then tk σ2 H3 fun y H4 => tv σ2 H4 fun z H5 => ∃ kvs k, y = kV k ∧ H5 D = some (.dK kvs) ∧ kvs.length < sizeLine ∧ Pv (i + 1) (upd H5 D (.dK (putK kvs k z))) else Pv (i + 1) H3) (hd : ∀ H, Pv kv.length H → Qd H) :
    ∃ W : Nat → Nat → Hp → Prop, (∃ m, W 0 m (upd H D (.dK []))) ∧ ∀ i m H, W i m H →
      ((Iti d o kv).stop i H ∧ Qd H) ∨ ((Iti d o kv).go i H ∧ ∃ Nx : Hp → Prop, (∀ H', Nx H' → ∃ m', m' < m ∧ W (i + 1) m' H') ∧ ∀ x H', (Iti d o kv).yld i H x H' → g x (wipe σ vs) H' fun σ2 H2 => wipe σ2 vs = wipe σ vs ∧ tt σ2 H2 fun b H3 =>
        if b = true then tk σ2 H3 fun y H4 => tv σ2 H4 fun z H5 => ∃ kvs k, y = kV k ∧ H5 D = some (.dK kvs) ∧ kvs.length < sizeLine ∧ Nx (upd H5 D (.dK (putK kvs k z))) else Nx H3) := by
  refine ⟨fun i m H => m = kv.length - i ∧ i ≤ kv.length ∧ Pv i H, ⟨kv.length, by simp, Nat.zero_le _, h0⟩, ?_⟩
  rintro i m H ⟨rfl, hi, p⟩
  have q := hl i H hi p
  by_cases hlt : i < kv.length
  · refine .inr ⟨⟨q, hlt⟩, Pv (i + 1), fun H' p' => ⟨kv.length - (i + 1), by omega, rfl, hlt, p'⟩, fun x H' y => ?_⟩
    obtain ⟨T, k, v, hk, rfl, hT, rfl⟩ := y
    exact hs i k v T _ hk p hT
  · have e : i = kv.length := by omega
    subst e
    exact .inl ⟨⟨q, Nat.le_refl _⟩, hd H p⟩
theorem r_lcK {d : Addr} {o : Obj} {kv : List (Key × V)} {D : Addr} {Qd : Hp → Prop} (Pv : Nat → Hp → Prop) (h0 : Pv 0 (upd H D (.lst []))) (hl : ∀ i H, i ≤ kv.length → Pv i H → H d = some (.frz o (.dK kv)))
    (hs : ∀ (i : Nat) (k : Key) (x : V) (H : Hp), kv[i]? = some (k, x) → Pv i H → g (kV k) (wipe σ vs) H fun σ2 H2 => wipe σ2 vs = wipe σ vs ∧ tt σ2 H2 fun b H3 =>
      if b = true then te σ2 H3 fun y H4 => ∃ acc, H4 D = some (.lst acc) ∧ acc.length < sizeLine ∧ Pv (i + 1) (upd H4 D (.lst (acc ++ [y]))) else Pv (i + 1) H3) (hd : ∀ H, Pv kv.length H → Qd H) :
    ∃ W : Nat → Nat → Hp → Prop, (∃ m, W 0 m (upd H D (.lst []))) ∧ ∀ i m H, W i m H →
      ((Itk d o kv).stop i H ∧ Qd H) ∨ ((Itk d o kv).go i H ∧ ∃ Nx : Hp → Prop, (∀ H', Nx H' → ∃ m', m' < m ∧ W (i + 1) m' H') ∧ ∀ x H', (Itk d o kv).yld i H x H' → g x (wipe σ vs) H' fun σ2 H2 => wipe σ2 vs = wipe σ vs ∧ tt σ2 H2 fun b H3 =>
        if b = true then te σ2 H3 fun y H4 => ∃ acc, H4 D = some (.lst acc) ∧ acc.length < sizeLine ∧ Nx (upd H4 D (.lst (acc ++ [y]))) else Nx H3) := by
  refine ⟨fun i m H => m = kv.length - i ∧ i ≤ kv.length ∧ Pv i H, ⟨kv.length, by simp, Nat.zero_le _, h0⟩, ?_⟩
  rintro i m H ⟨rfl, hi, p⟩
  have q := hl i H hi p
  by_cases hlt : i < kv.length
  · refine .inr ⟨⟨q, hlt⟩, Pv (i + 1), fun H' p' => ⟨kv.length - (i + 1), by omega, rfl, hlt, p'⟩, fun x H' y => ?_⟩
    obtain ⟨rfl, k, v, hk, rfl⟩ := y
    exact hs i k v _ hk p
  · have e : i = kv.length := by omega
    subst e
    exact .inl ⟨⟨q, Nat.le_refl _⟩, hd H p⟩
theorem r_iKeys {R : It → Hp → Prop} {d : Addr} {o : Obj} {kvs : List (Key × V)} (hd : H d = some (.frz o (.dK kvs))) (h : R (Itk d o kvs) H) : ∃ d' o', V.ref d = .ref d' ∧ ((∃ kvs, H d' = some (.frz o' (.dK kvs)) ∧ R (Itk d' o' kvs) H) ∨ ∃ kvs, H d' = some (.frz o' (.dT kvs)) ∧ R (Itkt d' o' kvs) H) := ⟨d, o, rfl, .inl ⟨kvs, hd, h⟩⟩
theorem r_iKeysT {R : It → Hp → Prop} (h : td σ H fun x H1 => ∃ d o, x = .ref d ∧ ((∃ kvs, H1 d = some (.frz o (.dK kvs)) ∧ R (Itk d o kvs) H1) ∨ ∃ kvs, H1 d = some (.frz o (.dT kvs)) ∧ R (Itkt d o kvs) H1)) : iKeys td σ H R := h
theorem r_disp1 (h : ∀ p, H p = none → tk σ (upd H p (.dK [])) fun x H1 => tv σ H1 fun y H2 => H2 p = some (.dK []) ∧ ∃ kvs : List (Key × V), [(x, y)] = kvs.map (fun kv => (kV kv.1, kv.2)) ∧ kvs.length ≤ 15 ∧ Q (.ref p) (upd H2 p (.dK (mergeK [] kvs)))) : tDisp [(tk, tv)] σ H Q := h
theorem r_dnK (h : ∀ p, H p = none → Q (.ref p) (upd H p (.dK []))) : tDNewK σ H Q := h
theorem r_par3 {i j l : Nat} (h : ta σ H fun vs H1 => ∃ u v w, vs = [u, v, w] ∧ nx (((σ.set i (some u)).set j (some v)).set l (some w)) H1) : tPar3 i j l ta ⟨nx, rt, bk, ct⟩ σ H := h
theorem r_par3e {u v w : V} {R : V → V → V → Prop} (h : R u v w) : ∃ u' v' w', [u, v, w] = [u', v', w'] ∧ R u' v' w' := ⟨u, v, w, rfl, h⟩
theorem r_dict {p : Addr} {kvs : List (Key × V)} (h1 : H p = some (.dK kvs)) (h : ∀ l, H l = none → Q (.ref l) (upd H l (.dK kvs))) : ∃ (a : Addr) (kvs : List (Key × V)), [V.ref p] = [V.ref a] ∧ Rd H a (.dK kvs) ∧ ∀ p, H p = none → Q (.ref p) (upd H p (.dK kvs)) := ⟨p, kvs, rfl, .inl h1, h⟩
end
end Yk

set_option maxHeartbeats 2000000
namespace Yk
open PySem PySem.Spec PyProof.Rows L2

/-! The law's own helpers from k28 on: the bag, the draws. -/
theorem seed_sq {seed : Int} (h0 : 0 ≤ seed) (h1 : seed < 2147483629) : CMulW seed seed := cmul (m := 32) (n := 32) (by omega) (by omega) (by decide) (by decide) (by decide)
section
variable {P : Program} {w : World} {K : PySem.W.Frag} {mg : Str → Option Value} {base : Heap} {f : Addr} {fd : FuncData}
abbrev s_law_bag : Stmt := top 51
theorem c_law_bag : FnScope ["_law_script", "_law_seed", "_law_cell"] ["_law_script"] (defScope s_law_bag) := ⟨rfl, rfl, rfl, by decide +kernel, rfl, by decide +kernel, by decide +kernel⟩
theorem f_law_bag (F : FunD K "_law_bag" "_law_bag" (defArgs s_law_bag) (defBody s_law_bag) (defScope s_law_bag) [] [] f fd) (hm : mg "_law_bag" = some (.ref f)) (T : Bt mg) : Fn P w K mg base 1 "_law_bag" (spBag K) := by
  refine fn_def F hm c_law_bag (fun vs H Q E h => ?_) (fun _ _ _ _ _ _ us hl => match us, hl with | [_], _ => rfl) (fun cdv A outer s H vs Q E hr h => ?_)
  · obtain ⟨a, ns, rfl, _⟩ := h
    rfl
  · obtain ⟨a, ns, rfl, ha, hns, k⟩ := h
    have nd := c_law_bag.nd
    refine ⟨_, (pss_cons (ps_set (i := 1) nd rfl (by first | exact Or.inl rfl | exact Or.inr rfl) pe_int)
      (pss_cons (ps_for PassesOwn.never rfl (pi_list (pe_slice sl_list (pv 0) po_none (po_some pe_int))) (pg_name (i := 2) nd rfl (by first | exact Or.inl rfl | exact Or.inr rfl))
        (pss_one (ps_set (i := 1) nd rfl (by first | exact Or.inl rfl | exact Or.inr rfl) (pe_op op_mod (pe_callTy call_int1 (by rfl) T.int (by decide +kernel) (pa_cons (pe_op op_add (pe_op op_add (pe_op op_mul (pv 1) pe_int) (pe_op op_mod (pe_callTy call_int1 (by rfl) T.int (by decide +kernel) (pa_cons (pv 2) pa_nil)) pe_int)) pe_int) pa_nil)) pe_int))))
      (pss_one (ps_ret (pe_lst (pa_cons (pe_callTy cr_list (by rfl) T.list (by decide +kernel) (pa_cons (pe_slice sl_list (pv 0) po_none (po_some pe_int)) pa_nil)) (pa_cons pe_int (pa_cons pe_int (pa_cons (pv 1) (pa_cons pe_int pa_nil)))))))))), ?_⟩
    show (_ : TS) _ [some _, none, none] _
    try dsimp only [cxOf, Cx.nox]
    have hc : cutV (ns.map V.int) none (some 63) = ns.map V.int := cut_all (by rw [List.length_map]; exact hns)
    walk_at "go"
    refine r_for ?_
    refine r_iList ?_
    walk_at "go"
    refine r_slList ha fun p hp => ?_
    rw [hc]
    refine ⟨p, rfl, ⟨_, lstS⟩, r_loopL (xs := ns.map V.int) (fun i σ H1 => H1 = upd H p (.lst (ns.map V.int)) ∧ ∃ seed u, σ = [some (.ref a), some (.int seed), u] ∧ 0 ≤ seed ∧ seed < 2147483629) ⟨rfl, 13965, none, rfl, by decide, by decide⟩ (fun i σ H1 _ h => by rw [h.1]; exact lstS) ?_ ?_⟩
    · rintro i x σ H1 hx ⟨rfl, seed, u, rfl, h0, h1⟩
      obtain ⟨z, rfl⟩ : ∃ z, x = V.int z := by
        rw [List.getElem?_map] at hx
        cases e : ns[i]? with
        | none => rw [e] at hx; cases hx
        | some z => rw [e] at hx; exact ⟨z, (Option.some.inj hx).symm⟩
      walk_at "go"
      have hm := modI (seed * 69621 + z % 2147483629 + 17) (n := 2147483587) (by decide)
      exact ⟨rfl, _, _, rfl, hm.1, by omega⟩
    · rintro σ H1 ⟨rfl, seed, u, rfl, h0, h1⟩
      walk_at "go"
      refine r_slList (lstN ha hp) fun p2 hp2 => ?_
      rw [hc]
      walk_at "go"
      refine r_list (.inl lstS) fun l hl => ?_
      walk_at "go"
      have x3 := ((Ext.refl (S := []) (H := H)).new hp).new hp2 |>.new (o := .lst (ns.map V.int)) hl
      exact k ⟨_, l, ns⟩ _ (x3.free (by assumption)) (x3.new (by assumption)) (bag_ex (pos := 0) upd_same (lstN lstS (by assumption)) hns (Nat.zero_le _) (Int.le_refl _) h0 h1)
abbrev s_law_draw : Stmt := top 52
theorem c_law_draw : FnScope ["_law_bag_here", "_law_many", "_law_cell", "_law_digit", "_law_seed"] ["_law_bag_here", "_law_many"] (defScope s_law_draw) := ⟨rfl, rfl, rfl, by decide +kernel, rfl, by decide +kernel, by decide +kernel⟩
theorem f_law_draw (F : FunD K "_law_draw" "_law_draw" (defArgs s_law_draw) (defBody s_law_draw) (defScope s_law_draw) [] [] f fd) (hm : mg "_law_draw" = some (.ref f)) (T : Bt mg) : Fn P w K mg base 1 "_law_draw" (spDraw K) := by
  refine fn_def F hm c_law_draw (fun vs H Q E h => ?_) (fun _ _ _ _ _ _ us hl => match us, hl with | [_, _], _ => rfl) (fun cdv A outer s H vs Q E hr h => ?_)
  · obtain ⟨b, n, rfl, _⟩ := h
    rfl
  · obtain ⟨⟨b, it, ns⟩, n, rfl, hn, hn2, ⟨l, hb, hi, hns, pos, rest, seed, cnt, rfl, hp, hr0, hs0, hs1⟩, k⟩ := h
    have nd := c_law_draw.nd
    dsimp only at hb hi hns hp k
    refine ⟨_, (pss_cons (ps_asg (pe_op op_add (pe_ix ix_list (pv 0) pe_int (fun _ _ => rfl)) pe_int) (pg_sub (pv 0) pe_int set_list))
      (pss_mid (ps_if (PW.pt (pw_and (pt_cmpR op_eq (pe_ix ix_list (pv 0) pe_int (fun _ _ => rfl)) pe_int (nomark _)) (pw_and1 (pt_cmpR op_lt (pe_ix ix_list (pv 0) pe_int (fun _ _ => rfl)) (pe_callB cr_len (by rfl) T.len (by decide +kernel) (pa_cons (pe_ix ix_list (pv 0) pe_int (fun _ _ => rfl)) pa_nil)) (nomark _)))))
        (pss_cons (ps_set (i := 2) nd rfl (by first | exact Or.inl rfl | exact Or.inr rfl) (pe_ix ix_list (pe_ix ix_list (pv 0) pe_int (fun _ _ => rfl)) (pe_ix ix_list (pv 0) pe_int (fun _ _ => rfl)) (fun _ _ => rfl)))
        (pss_cons (ps_asg (pe_op op_add (pe_ix ix_list (pv 0) pe_int (fun _ _ => rfl)) pe_int) (pg_sub (pv 0) pe_int set_list))
        (pss_one (ps_if (pt_cmpR op_ge (pv 2) (pe_op op_pow pe_int pe_int) (nomark _))
          (pss_one (ps_asg (pv 2) (pg_sub (pv 0) pe_int set_list)))
          (pss_one (ps_asg (pe_op op_mod (pe_callTy call_int1 (by rfl) T.int (by decide +kernel) (pa_cons (pe_op op_add (pe_op op_add (pe_op op_mul (pe_ix ix_list (pv 0) pe_int (fun _ _ => rfl)) pe_int) (pe_op op_mul (pe_op op_mod (pe_callTy call_int1 (by rfl) T.int (by decide +kernel) (pa_cons (pv 2) pa_nil)) pe_int) pe_int)) pe_int) pa_nil)) pe_int) (pg_sub (pv 0) pe_int set_list)))))))
        pss_nil)
      (pss_cons (ps_if (pt_cmpR op_gt (pe_ix ix_list (pv 0) pe_int (fun _ _ => rfl)) pe_int (nomark _))
        (pss_cons (ps_set (i := 3) nd rfl (by first | exact Or.inl rfl | exact Or.inr rfl) (pe_op op_mod (pe_callTy call_int1 (by rfl) T.int (by decide +kernel) (pa_cons (pe_ix ix_list (pv 0) pe_int (fun _ _ => rfl)) pa_nil)) (pv 1)))
        (pss_cons (ps_asg (pe_op op_fdivW (pe_ix ix_list (pv 0) pe_int (fun _ _ => rfl)) (pv 1)) (pg_sub (pv 0) pe_int set_list))
        (pss_one (ps_ret (pv 3)))))
        pss_nil)
      (pss_cons (ps_set (i := 4) nd rfl (by first | exact Or.inl rfl | exact Or.inr rfl) (pe_ix ix_list (pv 0) pe_int (fun _ _ => rfl)))
      (pss_cons (ps_asg (pe_op op_mod (pe_callTy call_int1 (by rfl) T.int (by decide +kernel) (pa_cons (pe_op op_add (pe_op op_add (pe_op op_add (pe_op op_mul (pe_op op_mulW (pv 4) (pv 4)) pe_int) (pe_op op_mul (pv 4) pe_int)) (pe_op op_mul (pe_ix ix_list (pv 0) pe_int (fun _ _ => rfl)) pe_int)) pe_int) pa_nil)) pe_int) (pg_sub (pv 0) pe_int set_list))
      (pss_one (ps_ret (pe_op op_mod (pe_callTy call_int1 (by rfl) T.int (by decide +kernel) (pa_cons (pe_op op_add (pe_op op_fdivW (pe_ix ix_list (pv 0) pe_int (fun _ _ => rfl)) pe_int) (pe_op op_mul (pe_op op_mod (pe_callTy call_int1 (by rfl) T.int (by decide +kernel) (pa_cons (pe_ix ix_list (pv 0) pe_int (fun _ _ => rfl)) pa_nil)) pe_int) pe_int)) pa_nil)) (pv 1))))))))), ?_⟩
    show (_ : TS) _ [some _, some _, none, none, none] _
    try dsimp only [cxOf, Cx.nox]
    have bb : SqL K H b [.ref it, .int (pos : Int), .int rest, .int seed, .int cnt] := .inl (.inl hb)
    walk_at "go"
    refine r_setB (K := K) hb rfl _ rfl (fun H1 hb1 e1 c1 => ?_)
    have bb1 : SqL K H1 b [.ref it, .int (pos : Int), .int rest, .int seed, .int (cnt + 1)] := .inl (.inl hb1)
    have hi1 := c1 _ _ hi (ns_ne _ _ _)
    refine r_mid (fun σ H2 => ∃ (u : Option V) (pos' : Nat) (rest' seed' : Int), σ = [some (.ref b), some (.int n), u, none, none] ∧ H2 b = some (.lst [.ref it, .int (pos' : Int), .int rest', .int seed', .int (cnt + 1)]) ∧ SqL K H2 it (ns.map V.int) ∧ Ext [b] H H2 ∧ pos' ≤ ns.length ∧ 0 ≤ rest' ∧ 0 ≤ seed' ∧ seed' < 2147483629) ?_ ?_
    · walk_at "go"
      refine r_dec (fun hrest => ?_) (fun hrest => ?_)
      · walk_at "go"
        refine r_dec (fun hpos => ?_) (fun hpos => ?_)
        · have hpn : pos < ns.length := by rw [List.length_map] at hpos; omega
          walk_at "go"
          refine r_ixL hi1 (at_map hpn) ?_
          walk_at "go"
          refine r_setB (K := K) hb1 rfl _ rfl (fun H2 hb2 e2 c2 => ?_)
          have bb2 : SqL K H2 b [.ref it, .int ((pos : Int) + 1), .int rest, .int seed, .int (cnt + 1)] := .inl (.inl hb2)
          have hi2 := c2 _ _ hi1 (ns_ne _ _ _)
          walk_at "go"
          refine r_dec (fun hge => ?_) (fun hge => ?_)
          · walk_at "go"
            refine r_setB (K := K) hb2 rfl _ rfl (fun H3 hb3 e3 c3 => ?_)
            exact ⟨_, pos + 1, ns[pos], seed, rfl, by rw [Int.natCast_add]; exact hb3, c3 _ _ hi2 (ns_ne _ _ _), (e1.trans e2).trans e3, hpn, Int.le_trans (by decide) hge, hs0, hs1⟩
          · walk_at "go"
            refine r_setB (K := K) hb2 rfl _ rfl (fun H3 hb3 e3 c3 => ?_)
            have hm := modI (seed * 39373 + ns[pos] % 2147483549 * 24571 + 59) (n := 2147483579) (by decide)
            exact ⟨_, pos + 1, rest, _, rfl, by rw [Int.natCast_add]; exact hb3, c3 _ _ hi2 (ns_ne _ _ _), (e1.trans e2).trans e3, hpn, hr0, hm.1, by omega⟩
        · walk_at "go"
          exact ⟨_, pos, rest, seed, rfl, hb1, hi1, e1, hp, hr0, hs0, hs1⟩
      · walk_at "go"
        exact ⟨_, pos, rest, seed, rfl, hb1, hi1, e1, hp, hr0, hs0, hs1⟩
    · rintro σ H2 ⟨u, pos', rest', seed', rfl, hb2, hi2, e2, hp2, hr2, hs2, hs3⟩
      have bb2 : SqL K H2 b [.ref it, .int (pos' : Int), .int rest', .int seed', .int (cnt + 1)] := .inl (.inl hb2)
      walk_at "go"
      refine r_dec (fun hpos => ?_) (fun hpos => ?_)
      · have d1 : CDivW rest' n := wide_div hn (b := 400) (by omega) (by decide) (by decide)
        walk_at "go"
        refine r_setB (K := K) hb2 rfl _ rfl (fun H3 hb3 e3 c3 => ?_)
        walk_at "go"
        have hm := modI rest' hn
        exact k _ H3 hm.1 hm.2 (bag_ex hb3 (c3 _ _ hi2 (ns_ne _ _ _)) hns hp2 (Int.ediv_nonneg hr2 (by omega)) hs2 hs3) (e2.trans e3)
      · have c4 := seed_sq hs2 hs3
        walk_at "go"
        refine r_setB (K := K) hb2 rfl _ rfl (fun H3 hb3 e3 c3 => ?_)
        have hm := modI (seed' * seed' * 29 + seed' * 48673 + (cnt + 1) * 1500007 + 70001) (n := 2147483579) (by decide)
        have bb3 : SqL K H3 b [.ref it, .int (pos' : Int), .int rest', .int ((seed' * seed' * 29 + seed' * 48673 + (cnt + 1) * 1500007 + 70001) % 2147483579), .int (cnt + 1)] := .inl (.inl hb3)
        walk_at "go"
        have hm2 := modI ((seed' * seed' * 29 + seed' * 48673 + (cnt + 1) * 1500007 + 70001) % 2147483579 / 101 + (seed' * seed' * 29 + seed' * 48673 + (cnt + 1) * 1500007 + 70001) % 2147483579 % 6007 * 83) hn
        exact k _ H3 hm2.1 hm2.2 (bag_ex hb3 (c3 _ _ hi2 (ns_ne _ _ _)) hns hp2 hr2 hm.1 (by omega)) (e2.trans e3)
end
end Yk

set_option maxHeartbeats 2000000
namespace Yk
open PySem PySem.Spec PyProof.Rows L2

/-! The law's own arithmetic from k28 on. -/
def spLess (K : PySem.W.Frag) : Sp := fun vs H Q _ => ∃ v1 v2 p q, vs = [v1, v2] ∧ Am K H v1 p ∧ Am K H v2 q ∧ Sz 4000 p ∧ Sz 4000 q ∧ Q (.bl (decide (p < q))) H
def restQ (p q : Rat) : Rat := if p ≤ q then 0 else p - q
section
variable {P : Program} {w : World} {K : PySem.W.Frag} {mg : Str → Option Value} {base : Heap} {f : Addr} {fd : FuncData}
abbrev s_law_amount : Stmt := top 54
theorem c_law_amount : FnScope ["_law_top", "_law_bottom", "_law_one", "_law_two"] ["_law_top", "_law_bottom"] (defScope s_law_amount) := ⟨rfl, rfl, rfl, by decide +kernel, rfl, by decide +kernel, by decide +kernel⟩
theorem f_law_amount (F : FunD K "_law_amount" "_law_amount" (defArgs s_law_amount) (defBody s_law_amount) (defScope s_law_amount) [] [] f fd) (hm : mg "_law_amount" = some (.ref f)) (T : Bt mg) : Fn P w K mg base 1 "_law_amount" (spPair K) := by
  refine fn_def F hm c_law_amount (fun vs H Q E h => ?_) (fun _ _ _ _ _ _ us hl => match us, hl with | [_, _], _ => rfl) (fun cdv A outer s H vs Q E hr h => ?_)
  · obtain ⟨a, b, rfl, _⟩ := h
    rfl
  · obtain ⟨a, b, rfl, hb, la, lb, k⟩ := h
    have nd := c_law_amount.nd
    refine ⟨_, (pss_cons (ps_par (i := 2) (j := 3) (by rfl) nd rfl rfl (by decide) rfl rfl (pa_cons (pv 0) (pa_cons (pv 1) pa_nil)) (by rfl))
      (pss_cons (ps_while PassesOwn.never (pt_cmpR op_gt (pv 3) pe_int (nomark _))
        (pss_one (ps_par (i := 2) (j := 3) (by rfl) nd rfl rfl (by decide) rfl rfl (pa_cons (pv 3) (pa_cons (pe_op op_mod (pe_callTy call_int1 (by rfl) T.int (by decide +kernel) (pa_cons (pv 2) pa_nil)) (pv 3)) pa_nil)) (by rfl))))
      (pss_one (ps_ret (pe_tup (pa_cons (pe_op op_fdivW (pv 0) (pv 2)) (pa_cons (pe_op op_fdivW (pv 1) (pv 2)) pa_nil))))))), ?_⟩
    show (_ : TS) _ [some _, some _, none, none] _
    try dsimp only [cxOf, Cx.nox]
    walk_at "go"
    refine r_while (fun m σ H1 => H1 = H ∧ ∃ x y : Nat, y = m ∧ 0 < x + y ∧ σ = [some (.int (a : Int)), some (.int (b : Int)), some (.int (x : Int)), some (.int (y : Int))] ∧ Nat.gcd x y = Nat.gcd a b) b ⟨rfl, a, b, rfl, by omega, rfl, rfl⟩ ?_
    rintro m σ H1 ⟨rfl, x, y, rfl, hxy, rfl, hg⟩
    walk_at "go"
    refine r_dec (fun hy => ?_) (fun hy => ?_)
    · have hy' : 0 < y := by omega
      refine ⟨fun σ H' => H' = H1 ∧ σ = [some (.int (a : Int)), some (.int (b : Int)), some (.int (y : Int)), some (.int ((x % y : Nat) : Int))], ?_, ?_⟩
      · rintro σ' H' ⟨rfl, rfl⟩
        refine ⟨x % y, Nat.mod_lt _ hy', rfl, y, x % y, rfl, by omega, rfl, ?_⟩
        rw [← hg, Nat.gcd_comm x y, Nat.gcd_rec y x, Nat.gcd_comm]
      · walk_at "go"
        exact ⟨rfl, rfl⟩
    · have y0 : y = 0 := by omega
      subst y0
      rw [Nat.gcd_zero_right] at hg
      have hx : 0 < x := by omega
      have lx : x < 2 ^ 8900 := Nat.lt_of_le_of_lt (by rw [hg]; exact Nat.gcd_le_right _ hb) lb
      have d1 : ∀ i : Int, CDivW i (x : Int) := fun i => cdiv hx lx (by decide) (by decide)
      walk_at "go"
      refine r_I (d1 _) ?_
      walk_at "go"
      refine r_I (d1 _) ?_
      walk_at "go"
      refine k _ _ (Ext.refl.new (by assumption)) ⟨_, rfl, ?_⟩
      obtain ⟨x1, x2⟩ := mk_parts a b hb
      rw [x1, x2, ← hg]
      simp only [Int.natCast_ediv]
      exact tupS
abbrev s_law_sum : Stmt := top 55
theorem c_law_sum : FnScope ["_law_one", "_law_two"] ["_law_one", "_law_two"] (defScope s_law_sum) := ⟨rfl, rfl, rfl, by decide +kernel, rfl, by decide +kernel, by decide +kernel⟩
theorem f_law_sum (F : FunD K "_law_sum" "_law_sum" (defArgs s_law_sum) (defBody s_law_sum) (defScope s_law_sum) [] [] f fd) (hm : mg "_law_sum" = some (.ref f)) (F_law_amount : Fn P w K mg base 1 "_law_amount" (spPair K)) : Fn P w K mg base 2 "_law_sum" (sp2 (fun _ _ => True) (· + ·) K) := by
  refine fn_def F hm c_law_sum (fun vs H Q E h => ?_) (fun _ _ _ _ _ _ us hl => match us, hl with | [_, _], _ => rfl) (fun cdv A outer s H vs Q E hr h => ?_)
  · obtain ⟨v1, v2, p, q, rfl, _⟩ := h
    rfl
  · obtain ⟨v1, v2, p, q, rfl, ⟨a1, rfl, h1⟩, ⟨a2, rfl, h2⟩, z1, z2, p0, q0, _, k⟩ := h
    have nd := c_law_sum.nd
    refine ⟨_, (pss_one (ps_ret (pe_fn F_law_amount (hr.mono (by decide)) (pa_cons (pe_op op_add (pe_op op_mulW (pe_ix ix_tup (pv 0) pe_int (fun _ _ => rfl)) (pe_ix ix_tup (pv 1) pe_int (fun _ _ => rfl))) (pe_op op_mulW (pe_ix ix_tup (pv 1) pe_int (fun _ _ => rfl)) (pe_ix ix_tup (pv 0) pe_int (fun _ _ => rfl)))) (pa_cons (pe_op op_mulW (pe_ix ix_tup (pv 0) pe_int (fun _ _ => rfl)) (pe_ix ix_tup (pv 1) pe_int (fun _ _ => rfl))) pa_nil))))), ?_⟩
    show (_ : TS) _ [some _, some _] _
    try dsimp only [cxOf, Cx.nox]
    have m1 : CMulW p.num (q.den : Int) := cmul z1.1 (szd z2) (by decide) (by decide) (by decide)
    have m2 : CMulW q.num (p.den : Int) := cmul z2.1 (szd z1) (by decide) (by decide) (by decide)
    have m3 : CMulW (p.den : Int) (q.den : Int) := cmul (szd z1) (szd z2) (by decide) (by decide) (by decide)
    walk_at "go"
    have e1 := mulz z1.1 (szd z2)
    have e2 := mulz z2.1 (szd z1)
    have e3 : p.den * q.den < 2 ^ (4000 + 4000) := by rw [Nat.pow_add]; exact Nat.mul_lt_mul'' z1.2 z2.2
    have e4 : (2 : Nat) ^ (4000 + 4000) + 2 ^ (4000 + 4000) ≤ 2 ^ 8900 := by decide +kernel
    have n1 : 0 ≤ p.num * (q.den : Int) := Int.mul_nonneg (num_nn p0) (by omega)
    have n2 : 0 ≤ q.num * (p.den : Int) := Int.mul_nonneg (num_nn q0) (by omega)
    refine ⟨(p.num * (q.den : Int) + q.num * (p.den : Int)).toNat, p.den * q.den, ?_, Nat.mul_pos p.den_pos q.den_pos, ?_, by omega, fun v H' e a => k v H' e ?_⟩
    · rw [Int.toNat_of_nonneg (by omega), Int.natCast_mul]
    · generalize (2 : Nat) ^ (4000 + 4000) = B at *
      generalize (2 : Nat) ^ 8900 = C at *
      omega
    · rw [Int.toNat_of_nonneg (by omega), mk_add] at a
      exact a
theorem mk_subH (p q : Rat) : mkRat (p.num * q.den - q.num * p.den) (p.den * q.den) = p - q := by rw [Rat.sub_eq_add_neg, Rat.add_def, Rat.normalize_eq_mkRat, Rat.neg_num, Rat.neg_den, Int.neg_mul, Int.sub_eq_add_neg]
theorem le_cross (p q : Rat) : p ≤ q ↔ p.num * (q.den : Int) - q.num * (p.den : Int) ≤ 0 := by
  have h1 := Rat.lt_iff q p
  have h2 : p ≤ q ↔ ¬ q < p := Rat.not_lt.symm
  rw [h2, h1]
  omega
theorem mk_rest (p q : Rat) : mkRat ((max (p.num * (q.den : Int) - q.num * (p.den : Int)) 0).toNat : Int) (p.den * q.den) = restQ p q := by
  unfold restQ
  by_cases h : p ≤ q
  · have h2 := (le_cross p q).mp h
    rw [if_pos h, Int.max_eq_right h2]
    simp
  · have h2 : ¬ (p.num * (q.den : Int) - q.num * (p.den : Int) ≤ 0) := fun z => h ((le_cross p q).mpr z)
    rw [if_neg h, Int.max_eq_left (by omega), Int.toNat_of_nonneg (by omega), mk_subH]
theorem max_if (a : Int) : (if 0 > a then 0 else a) = max a 0 := by omega
theorem rest_nn (p q : Rat) : 0 ≤ restQ p q := by
  unfold restQ
  split
  · exact Rat.le_refl
  · grind
abbrev s_law_rest : Stmt := top 56
theorem c_law_rest : FnScope ["_law_one", "_law_two"] ["_law_one", "_law_two"] (defScope s_law_rest) := ⟨rfl, rfl, rfl, by decide +kernel, rfl, by decide +kernel, by decide +kernel⟩
theorem f_law_rest (F : FunD K "_law_rest" "_law_rest" (defArgs s_law_rest) (defBody s_law_rest) (defScope s_law_rest) [] [] f fd) (hm : mg "_law_rest" = some (.ref f)) (T : Bt mg) (F_law_amount : Fn P w K mg base 1 "_law_amount" (spPair K)) : Fn P w K mg base 2 "_law_rest" (sp2 (fun _ _ => True) restQ K) := by
  refine fn_def F hm c_law_rest (fun vs H Q E h => ?_) (fun _ _ _ _ _ _ us hl => match us, hl with | [_, _], _ => rfl) (fun cdv A outer s H vs Q E hr h => ?_)
  · obtain ⟨v1, v2, p, q, rfl, _⟩ := h
    rfl
  · obtain ⟨v1, v2, p, q, rfl, ⟨a1, rfl, h1⟩, ⟨a2, rfl, h2⟩, z1, z2, p0, q0, _, k⟩ := h
    have nd := c_law_rest.nd
    refine ⟨_, (pss_one (ps_ret (pe_fn F_law_amount (hr.mono (by decide)) (pa_cons (pe_callB (call_max2 rfl) (by rfl) T.max (by decide +kernel) (pa_cons (pe_op op_sub (pe_op op_mulW (pe_ix ix_tup (pv 0) pe_int (fun _ _ => rfl)) (pe_ix ix_tup (pv 1) pe_int (fun _ _ => rfl))) (pe_op op_mulW (pe_ix ix_tup (pv 1) pe_int (fun _ _ => rfl)) (pe_ix ix_tup (pv 0) pe_int (fun _ _ => rfl)))) (pa_cons pe_int pa_nil))) (pa_cons (pe_op op_mulW (pe_ix ix_tup (pv 0) pe_int (fun _ _ => rfl)) (pe_ix ix_tup (pv 1) pe_int (fun _ _ => rfl))) pa_nil))))), ?_⟩
    show (_ : TS) _ [some _, some _] _
    try dsimp only [cxOf, Cx.nox]
    have m1 : CMulW p.num (q.den : Int) := cmul z1.1 (szd z2) (by decide) (by decide) (by decide)
    have m2 : CMulW q.num (p.den : Int) := cmul z2.1 (szd z1) (by decide) (by decide) (by decide)
    have m3 : CMulW (p.den : Int) (q.den : Int) := cmul (szd z1) (szd z2) (by decide) (by decide) (by decide)
    walk_at "go"
    have e1 := mulz z1.1 (szd z2)
    have e2 := mulz z2.1 (szd z1)
    have e3 : p.den * q.den < 2 ^ (4000 + 4000) := by rw [Nat.pow_add]; exact Nat.mul_lt_mul'' z1.2 z2.2
    have e4 : (2 : Nat) ^ (4000 + 4000) + 2 ^ (4000 + 4000) ≤ 2 ^ 8900 := by decide +kernel
    have n1 : 0 ≤ p.num * (q.den : Int) := Int.mul_nonneg (num_nn p0) (by omega)
    have n2 : 0 ≤ q.num * (p.den : Int) := Int.mul_nonneg (num_nn q0) (by omega)
    refine ⟨(max (p.num * (q.den : Int) - q.num * (p.den : Int)) 0).toNat, p.den * q.den, ?_, Nat.mul_pos p.den_pos q.den_pos, ?_, by omega, fun v H' e a => k v H' e ?_⟩
    · rw [Int.toNat_of_nonneg (by omega), Int.natCast_mul, max_if]
    · generalize (2 : Nat) ^ (4000 + 4000) = B at *
      generalize (2 : Nat) ^ 8900 = C at *
      omega
    · rw [mk_rest] at a
      exact a
abbrev s_law_less : Stmt := top 58
theorem c_law_less : FnScope ["_law_one", "_law_two"] ["_law_one", "_law_two"] (defScope s_law_less) := ⟨rfl, rfl, rfl, by decide +kernel, rfl, by decide +kernel, by decide +kernel⟩
theorem f_law_less (F : FunD K "_law_less" "_law_less" (defArgs s_law_less) (defBody s_law_less) (defScope s_law_less) [] [] f fd) (hm : mg "_law_less" = some (.ref f))  : Fn P w K mg base 1 "_law_less" (spLess K) := by
  refine fn_def F hm c_law_less (fun vs H Q E h => ?_) (fun _ _ _ _ _ _ us hl => match us, hl with | [_, _], _ => rfl) (fun cdv A outer s H vs Q E hr h => ?_)
  · obtain ⟨v1, v2, p, q, rfl, _⟩ := h
    rfl
  · obtain ⟨v1, v2, p, q, rfl, ⟨a1, rfl, h1⟩, ⟨a2, rfl, h2⟩, z1, z2, k⟩ := h
    have nd := c_law_less.nd
    refine ⟨_, (pss_one (ps_ret (pe_cmpR op_lt (pe_op op_mulW (pe_ix ix_tup (pv 0) pe_int (fun _ _ => rfl)) (pe_ix ix_tup (pv 1) pe_int (fun _ _ => rfl))) (pe_op op_mulW (pe_ix ix_tup (pv 1) pe_int (fun _ _ => rfl)) (pe_ix ix_tup (pv 0) pe_int (fun _ _ => rfl))) (nomark _)))), ?_⟩
    show (_ : TS) _ [some _, some _] _
    try dsimp only [cxOf, Cx.nox]
    have m1 : CMulW p.num (q.den : Int) := cmul z1.1 (szd z2) (by decide) (by decide) (by decide)
    have m2 : CMulW q.num (p.den : Int) := cmul z2.1 (szd z1) (by decide) (by decide) (by decide)
    walk_at "go"
    have e : decide (p.num * (q.den : Int) < q.num * (p.den : Int)) = decide (p < q) := decide_eq_decide.mpr (Rat.lt_iff p q).symm
    rw [e]
    exact k
abbrev s_law_min : Stmt := top 59
theorem c_law_min : FnScope ["_law_one", "_law_two"] ["_law_one", "_law_two"] (defScope s_law_min) := ⟨rfl, rfl, rfl, by decide +kernel, rfl, by decide +kernel, by decide +kernel⟩
theorem f_law_min (F : FunD K "_law_min" "_law_min" (defArgs s_law_min) (defBody s_law_min) (defScope s_law_min) [] [] f fd) (hm : mg "_law_min" = some (.ref f)) (F_law_less : Fn P w K mg base 1 "_law_less" (spLess K)) : Fn P w K mg base 2 "_law_min" (sp2 (fun _ _ => True) lmin K) := by
  refine fn_def F hm c_law_min (fun vs H Q E h => ?_) (fun _ _ _ _ _ _ us hl => match us, hl with | [_, _], _ => rfl) (fun cdv A outer s H vs Q E hr h => ?_)
  · obtain ⟨v1, v2, p, q, rfl, _⟩ := h
    rfl
  · obtain ⟨v1, v2, p, q, rfl, h1, h2, z1, z2, p0, q0, _, k⟩ := h
    have nd := c_law_min.nd
    refine ⟨_, (pss_one (ps_ret (pe_ifExp (pt_val (pe_fn F_law_less (hr.mono (by decide)) (pa_cons (pv 1) (pa_cons (pv 0) pa_nil)))) (pv 1) (pv 0)))), ?_⟩
    show (_ : TS) _ [some _, some _] _
    try dsimp only [cxOf, Cx.nox]
    walk_at "go"
    refine ⟨_, _, q, p, rfl, h2, h1, z2, z1, ?_⟩
    refine r_bl ?_
    refine r_dec (fun hl => ?_) (fun hl => ?_)
    · walk_at "go"
      refine k _ _ Ext.refl ?_
      unfold lmin
      rw [if_pos hl]
      exact h2
    · walk_at "go"
      refine k _ _ Ext.refl ?_
      unfold lmin
      rw [if_neg hl]
      exact h1
def gmax (p q : Rat) : Rat := if p < q then q else p
abbrev s_law_max : Stmt := top 60
theorem c_law_max : FnScope ["_law_one", "_law_two"] ["_law_one", "_law_two"] (defScope s_law_max) := ⟨rfl, rfl, rfl, by decide +kernel, rfl, by decide +kernel, by decide +kernel⟩
theorem f_law_max (F : FunD K "_law_max" "_law_max" (defArgs s_law_max) (defBody s_law_max) (defScope s_law_max) [] [] f fd) (hm : mg "_law_max" = some (.ref f)) (F_law_less : Fn P w K mg base 1 "_law_less" (spLess K)) : Fn P w K mg base 2 "_law_max" (sp2 (fun _ _ => True) gmax K) := by
  refine fn_def F hm c_law_max (fun vs H Q E h => ?_) (fun _ _ _ _ _ _ us hl => match us, hl with | [_, _], _ => rfl) (fun cdv A outer s H vs Q E hr h => ?_)
  · obtain ⟨v1, v2, p, q, rfl, _⟩ := h
    rfl
  · obtain ⟨v1, v2, p, q, rfl, h1, h2, z1, z2, p0, q0, _, k⟩ := h
    have nd := c_law_max.nd
    refine ⟨_, (pss_one (ps_ret (pe_ifExp (pt_val (pe_fn F_law_less (hr.mono (by decide)) (pa_cons (pv 0) (pa_cons (pv 1) pa_nil)))) (pv 1) (pv 0)))), ?_⟩
    show (_ : TS) _ [some _, some _] _
    try dsimp only [cxOf, Cx.nox]
    walk_at "go"
    refine ⟨_, _, p, q, rfl, h1, h2, z1, z2, ?_⟩
    refine r_bl ?_
    refine r_dec (fun hl => ?_) (fun hl => ?_)
    · walk_at "go"
      refine k _ _ Ext.refl ?_
      unfold gmax
      rw [if_pos hl]
      exact h2
    · walk_at "go"
      refine k _ _ Ext.refl ?_
      unfold gmax
      rw [if_neg hl]
      exact h1
/-- an amount times a fraction of numbers -/
def spScaled (K : PySem.W.Frag) : Sp := fun vs H Q _ => ∃ (v : V) (q : Rat) (a b : Nat), vs = [v, .int (a : Int), .int (b : Int)] ∧ Am K H v q ∧ 0 ≤ q ∧ 0 < b ∧ Sz 4000 q ∧ a < 2 ^ 400 ∧ b < 2 ^ 400 ∧ RetAm K H Q (q * mkRat a b)
theorem mk_scaled (q : Rat) (a b : Nat) : mkRat (q.num * (a : Int)) (q.den * b) = q * mkRat a b := by
  conv => rhs; rw [← Rat.mkRat_self q]
  rw [Rat.mkRat_mul_mkRat]
abbrev s_law_scaled : Stmt := top 57
theorem c_law_scaled : FnScope ["_law_one", "_law_top", "_law_bottom"] ["_law_one", "_law_top", "_law_bottom"] (defScope s_law_scaled) := ⟨rfl, rfl, rfl, by decide +kernel, rfl, by decide +kernel, by decide +kernel⟩
theorem f_law_scaled (F : FunD K "_law_scaled" "_law_scaled" (defArgs s_law_scaled) (defBody s_law_scaled) (defScope s_law_scaled) [] [] f fd) (hm : mg "_law_scaled" = some (.ref f)) (F_law_amount : Fn P w K mg base 1 "_law_amount" (spPair K)) : Fn P w K mg base 2 "_law_scaled" (spScaled K) := by
  refine fn_def F hm c_law_scaled (fun vs H Q E h => ?_) (fun _ _ _ _ _ _ us hl => match us, hl with | [_, _, _], _ => rfl) (fun cdv A outer s H vs Q E hr h => ?_)
  · obtain ⟨v, q, a, b, rfl, _⟩ := h
    rfl
  · obtain ⟨v, q, a, b, rfl, ⟨a1, rfl, h1⟩, q0, hb, z1, ha2, hb2, k⟩ := h
    have nd := c_law_scaled.nd
    refine ⟨_, (pss_one (ps_ret (pe_fn F_law_amount (hr.mono (by decide)) (pa_cons (pe_op op_mulW (pe_ix ix_tup (pv 0) pe_int (fun _ _ => rfl)) (pv 1)) (pa_cons (pe_op op_mulW (pe_ix ix_tup (pv 0) pe_int (fun _ _ => rfl)) (pv 2)) pa_nil))))), ?_⟩
    show (_ : TS) _ [some _, some _, some _] _
    try dsimp only [cxOf, Cx.nox]
    have ha3 : (a : Int).natAbs < 2 ^ 400 := by rw [Int.natAbs_natCast]; exact ha2
    have hb3 : (b : Int).natAbs < 2 ^ 400 := by rw [Int.natAbs_natCast]; exact hb2
    have m1 : CMulW q.num (a : Int) := cmul z1.1 ha3 (by decide) (by decide) (by decide)
    have m2 : CMulW (q.den : Int) (b : Int) := cmul (szd z1) hb3 (by decide) (by decide) (by decide)
    walk_at "go"
    have e1 := mulz z1.1 ha3
    have e3 : q.den * b < 2 ^ (4000 + 400) := by rw [Nat.pow_add]; exact Nat.mul_lt_mul'' z1.2 hb2
    have e4 : (2 : Nat) ^ (4000 + 400) ≤ 2 ^ 8900 := by decide +kernel
    have n1 : 0 ≤ q.num * (a : Int) := Int.mul_nonneg (num_nn q0) (by omega)
    refine ⟨(q.num * (a : Int)).toNat, q.den * b, ?_, Nat.mul_pos q.den_pos hb, ?_, by omega, fun v H' e am => k v H' e ?_⟩
    · rw [Int.toNat_of_nonneg (by omega), Int.natCast_mul]
    · generalize (2 : Nat) ^ (4000 + 400) = B at *
      generalize (2 : Nat) ^ 8900 = C at *
      omega
    · rw [Int.toNat_of_nonneg (by omega), mk_scaled q a b] at am
      exact am
end
end Yk

set_option maxHeartbeats 4000000
namespace Yk
open PySem PySem.Spec PyProof.Rows L2

/-! _law_same: data that is alike. -/
section
variable {P : Program} {w : World} {K : PySem.W.Frag} {mg : Str → Option Value} {base : Heap} {f : Addr} {fd : FuncData}
abbrev s_law_same : Stmt := top 61
theorem c_law_same : FnScope ["_law_told", "_law_due", "_law_one", "_law_two"] ["_law_told", "_law_due"] (defScope s_law_same) := ⟨rfl, rfl, rfl, by decide +kernel, rfl, by decide +kernel, by decide +kernel⟩
theorem f_law_same (F : FunD K "_law_same" "_law_same" (defArgs s_law_same) (defBody s_law_same) (defScope s_law_same) [] [] f fd) (hm : mg "_law_same" = some (.ref f)) (T : Bt mg) (n : Nat) (F_law_same : Fn P w K mg base n "_law_same" (spLike K n)) : Fn P w K mg base (n+1) "_law_same" (spLike K (n + 1)) := by
  refine fn_def F hm c_law_same (fun vs H Q E h => ?_) (fun _ _ _ _ _ _ us hl => match us, hl with | [_, _], _ => rfl) (fun cdv A outer s H vs Q E hr h => ?_)
  · obtain ⟨v1, v2, rfl, _⟩ := h
    rfl
  · obtain ⟨v1, v2, rfl, he, k⟩ := h
    have nd := c_law_same.nd
    refine ⟨_, (pss_cons (ps_if (pt_val (pe_callB call_isiT (by rfl) T.isinstance (by decide +kernel) (pa_cons (pv 1) (pa_cons (pe_tup (pa_cons (pe_bltn (v := .ty "tuple") (by rfl) T.tuple (by decide +kernel) rfl) (pa_cons (pe_bltn (v := .ty "list") (by rfl) T.list (by decide +kernel) rfl) pa_nil))) pa_nil))))
        (pss_cons (ps_if (PW.pt (pw_or (pt_cmpR op_ne (pe_callB call_isi (by rfl) T.isinstance (by decide +kernel) (pa_cons (pv 0) (pa_cons (pe_bltn (v := .ty "tuple") (by rfl) T.tuple (by decide +kernel) rfl) pa_nil))) (pe_callB call_isi (by rfl) T.isinstance (by decide +kernel) (pa_cons (pv 1) (pa_cons (pe_bltn (v := .ty "tuple") (by rfl) T.tuple (by decide +kernel) rfl) pa_nil))) (nomark _)) (pw_or1 (pt_cmpR op_ne (pe_callB call_isi (by rfl) T.isinstance (by decide +kernel) (pa_cons (pv 0) (pa_cons (pe_bltn (v := .ty "list") (by rfl) T.list (by decide +kernel) rfl) pa_nil))) (pe_callB call_isi (by rfl) T.isinstance (by decide +kernel) (pa_cons (pv 1) (pa_cons (pe_bltn (v := .ty "list") (by rfl) T.list (by decide +kernel) rfl) pa_nil))) (nomark _)))))
          (pss_one (ps_ret pe_bl))
          pss_nil)
        (pss_one (ps_ret (pe_and (pe_cmpR op_eq (pe_callB cr_len (by rfl) T.len (by decide +kernel) (pa_cons (pv 0) pa_nil)) (pe_callB cr_len (by rfl) T.len (by decide +kernel) (pa_cons (pv 1) pa_nil)) (nomark _)) (pe_one (pe_callB (cr_all rfl) (by rfl) T.all (by decide +kernel) (pa_cons (pe_lc (own := [("_law_one", 2), ("_law_two", 3)])  rfl nd (RZ.pi_zipA (by rfl) T.zip (pa_cons (pv 0) (pa_cons (pv 1) pa_nil))) (blkOk_by (N := ["_law_told", "_law_due", "_law_one", "_law_two"]) (sc := defScope s_law_same) (by decide +kernel)) (fun _ _ _ _ _ => (pg_tup (n := 2) rfl (pgs_cons (pg_name (i := 2) nd rfl (Or.inl rfl)) (pgs_cons (pg_name (i := 3) nd rfl (Or.inl rfl)) pgs_nil)) : PG _ _ (gTup K 2 _))) (fun _ _ _ _ _ => pts_nil) (fun _ _ _ _ _ => (pe_fn F_law_same (hr.mono (Nat.le_refl _)) (pa_cons (pv 2) (pa_cons (pv 3) pa_nil))))) pa_nil)))))))
        pss_nil)
      (pss_cons (ps_if (PW.pt (pw_or (pt_cmpR op_isN (pv 1) pe_non (nomark _)) (pw_or1 (pt_cmpR op_isN (pv 0) pe_non (nomark _)))))
        (pss_one (ps_ret (pe_and (pe_cmpR op_isN (pv 1) pe_non (nomark _)) (pe_one (pe_cmpR op_isN (pv 0) pe_non (nomark _))))))
        pss_nil)
      (pss_cons (ps_if (PW.pt (pw_or (pt_cmpR op_ne (pe_callB call_isi (by rfl) T.isinstance (by decide +kernel) (pa_cons (pv 0) (pa_cons (pe_bltn (v := .ty "bool") (by rfl) T.bool (by decide +kernel) rfl) pa_nil))) (pe_callB call_isi (by rfl) T.isinstance (by decide +kernel) (pa_cons (pv 1) (pa_cons (pe_bltn (v := .ty "bool") (by rfl) T.bool (by decide +kernel) rfl) pa_nil))) (nomark _)) (pw_or1 (pt_cmpR op_ne (pe_callB call_isi (by rfl) T.isinstance (by decide +kernel) (pa_cons (pv 0) (pa_cons (pe_bltn (v := .ty "int") (by rfl) T.int (by decide +kernel) rfl) pa_nil))) (pe_callB call_isi (by rfl) T.isinstance (by decide +kernel) (pa_cons (pv 1) (pa_cons (pe_bltn (v := .ty "int") (by rfl) T.int (by decide +kernel) rfl) pa_nil))) (nomark _)))))
        (pss_one (ps_ret pe_bl))
        pss_nil)
      (pss_one (ps_ret (pe_and (pe_cmpR op_eq (pe_callB call_isi (by rfl) T.isinstance (by decide +kernel) (pa_cons (pv 0) (pa_cons (pe_bltn (v := .ty "str") (by rfl) T.str (by decide +kernel) rfl) pa_nil))) (pe_callB call_isi (by rfl) T.isinstance (by decide +kernel) (pa_cons (pv 1) (pa_cons (pe_bltn (v := .ty "str") (by rfl) T.str (by decide +kernel) rfl) pa_nil))) (nomark _)) (pe_one (pe_cmpR op_eq (pv 0) (pv 1) (nomark _))))))))), ?_⟩
    show (_ : TS) _ [some _, some _, none, none] _
    try dsimp only [cxOf, Cx.nox]
    cases he with
    | non n =>
      walk_at "run"
      exact k _ (by walk_at "ext")
    | bl n b =>
      walk_at "run"
      rw [decide_eq_true rfl]
      exact k _ (by walk_at "ext")
    | int n i =>
      walk_at "run"
      rw [decide_eq_true rfl]
      exact k _ (by walk_at "ext")
    | str n z =>
      walk_at "run"
      rw [decide_eq_true rfl]
      exact k _ (by walk_at "ext")
    | @tup n a b xs ys ha hb hl h4 h =>
      walk_at "run"
      refine r_true (len_is (by rw [hl])) ?_
      walk_at "run"
      refine ⟨a, b, xs, ys, rfl, .inr ⟨by walk_at "sq", by walk_at "sq", fun D hD => ?_⟩⟩
      generalize hH : upd H _ _ = H0 at *
      have e0 : Ext [] H H0 := by
        rw [← hH]
        walk_at "ext"
      refine r_lcZT hl (fun i H1 => Ext [] H0 H1 ∧ H1 D = some (.lst ((List.replicate i true).map V.bl))) ⟨Ext.refl.new hD, upd_same⟩ (fun i H1 p => ⟨tup0 (e0.trans p.1) ha, tup0 (e0.trans p.1) hb⟩) ?_ ?_
      · rintro i x y T H1 hx hy ⟨e1, hD1⟩ hT
        walk_at "run"
        refine ⟨rfl, ?_⟩
        walk_at "run"
        have hi : i < xs.length := (List.getElem?_eq_some_iff.mp hx).1
        have e2 : Ext [] H0 (upd H1 T (.tup [x, y])) := e1.new hT
        refine ⟨x, y, rfl, (h i x y hx hy).x0 (e0.trans e2), fun H2 e3 => ?_⟩
        have hD2 : H2 D = some (.lst ((List.replicate i true).map V.bl)) := e3 _ _ (by rw [upd_ne (ne_of_none hD1 hT)]; exact hD1) fun z => nomatch z
        refine ⟨_, hD2, ?_, (e2.trans e3).own hD, ?_⟩
        · rw [List.length_map, List.length_replicate]
          exact Nat.lt_of_le_of_lt (by omega : i ≤ 4000) (by decide)
        · rw [List.replicate_succ', List.map_append]
          exact upd_same
      · rintro H1 ⟨e1, hD1⟩
        walk_at "run"
        refine r_all (bs := List.replicate xs.length true) (.inl (.inl hD1)) ?_
        rw [show (List.replicate xs.length true).all id = true by simp]
        exact k _ (e0.trans e1)
    | @lst n a b xs ys ha hb hl h4 h =>
      walk_at "run"
      refine r_true (len_is (by rw [hl])) ?_
      walk_at "run"
      refine ⟨a, b, xs, ys, rfl, .inl ⟨by walk_at "sq", by walk_at "sq", fun D hD => ?_⟩⟩
      generalize hH : upd H _ _ = H0 at *
      have e0 : Ext [] H H0 := by
        rw [← hH]
        walk_at "ext"
      refine r_lcZL hl (fun i H1 => Ext [] H0 H1 ∧ H1 D = some (.lst ((List.replicate i true).map V.bl))) ⟨Ext.refl.new hD, upd_same⟩ (fun i H1 p => ⟨lst0 (e0.trans p.1) ha, lst0 (e0.trans p.1) hb⟩) ?_ ?_
      · rintro i x y T H1 hx hy ⟨e1, hD1⟩ hT
        walk_at "run"
        refine ⟨rfl, ?_⟩
        walk_at "run"
        have hi : i < xs.length := (List.getElem?_eq_some_iff.mp hx).1
        have e2 : Ext [] H0 (upd H1 T (.tup [x, y])) := e1.new hT
        refine ⟨x, y, rfl, (h i x y hx hy).x0 (e0.trans e2), fun H2 e3 => ?_⟩
        have hD2 : H2 D = some (.lst ((List.replicate i true).map V.bl)) := e3 _ _ (by rw [upd_ne (ne_of_none hD1 hT)]; exact hD1) fun z => nomatch z
        refine ⟨_, hD2, ?_, (e2.trans e3).own hD, ?_⟩
        · rw [List.length_map, List.length_replicate]
          exact Nat.lt_of_le_of_lt (by omega : i ≤ 4000) (by decide)
        · rw [List.replicate_succ', List.map_append]
          exact upd_same
      · rintro H1 ⟨e1, hD1⟩
        walk_at "run"
        refine r_all (bs := List.replicate xs.length true) (.inl (.inl hD1)) ?_
        rw [show (List.replicate xs.length true).all id = true by simp]
        exact k _ (e0.trans e1)
end
end Yk

set_option maxHeartbeats 4000000
namespace Yk
open PySem PySem.Spec PyProof.Rows L2

/-! Drawn amounts. -/
theorem of_intN {K : PySem.W.Frag} {H : Hp} {b : Bag} {l : Addr} {ns : List Int} {Q : VK} {E : XK} (hb : BagAt K H b) (hl : SqL K H l (ns.map V.int)) (hne : b.a ≠ l) (h0 : 0 < ns.length) (h4 : ns.length ≤ 4000) (k : ∀ x H', x ∈ ns → BagAt K H' b → Ext [b.a] H H' → Q (.int x) H') : spOf K [.ref b.a, .ref l] H Q E :=
  ⟨b, l, _, rfl, hb, hl, hne, by rw [List.length_map]; exact h0, by rw [List.length_map]; exact h4, fun i x H' hx hb' e => by
    rw [List.getElem?_map] at hx
    cases e2 : ns[i]? with
    | none => rw [e2] at hx; cases hx
    | some z => rw [e2] at hx; cases hx; exact k z H' (List.mem_of_getElem? e2) hb' e⟩
def spSome (K : PySem.W.Frag) : Sp := fun vs H Q _ => ∃ (b : Bag) (M : Nat), vs = [.ref b.a, .int (M : Int)] ∧ BagAt K H b ∧ M ≤ 2 ^ 60 ∧ ∀ v q H', Am K H' v q → In 30 M q → BagAt K H' b → Ext [b.a] H H' → Q v H'
section
variable {P : Program} {w : World} {K : PySem.W.Frag} {mg : Str → Option Value} {base : Heap} {f : Addr} {fd : FuncData}
abbrev s_law_some : Stmt := top 62
theorem c_law_some : FnScope ["_law_bag_here", "_law_most", "_law_bottom"] ["_law_bag_here", "_law_most"] (defScope s_law_some) := ⟨rfl, rfl, rfl, by decide +kernel, rfl, by decide +kernel, by decide +kernel⟩
theorem f_law_some (F : FunD K "_law_some" "_law_some" (defArgs s_law_some) (defBody s_law_some) (defScope s_law_some) [] [] f fd) (hm : mg "_law_some" = some (.ref f)) (T : Bt mg) (F_law_draw : Fn P w K mg base 1 "_law_draw" (spDraw K)) (F_law_of : Fn P w K mg base 2 "_law_of" (spOf K)) (F_law_amount : Fn P w K mg base 1 "_law_amount" (spPair K)) : Fn P w K mg base 3 "_law_some" (spSome K) := by
  refine fn_def F hm c_law_some (fun vs H Q E h => ?_) (fun _ _ _ _ _ _ us hl => match us, hl with | [_, _], _ => rfl) (fun cdv A outer s H vs Q E hr h => ?_)
  · obtain ⟨b, M, rfl, _⟩ := h
    rfl
  · obtain ⟨b, M, rfl, hb, hM, k⟩ := h
    have nd := c_law_some.nd
    refine ⟨_, (pss_cons (ps_set (i := 2) nd rfl (by first | exact Or.inl rfl | exact Or.inr rfl) (pe_fn F_law_of (hr.mono (by decide)) (pa_cons (pv 0) (pa_cons (pe_lst (pa_cons pe_int (pa_cons pe_int (pa_cons pe_int (pa_cons pe_int (pa_cons pe_int (pa_cons pe_int (pa_cons pe_int (pa_cons pe_int pa_nil))))))))) pa_nil))))
      (pss_one (ps_ret (pe_fn F_law_amount (hr.mono (by decide)) (pa_cons (pe_fn F_law_draw (hr.mono (by decide)) (pa_cons (pv 0) (pa_cons (pe_op op_add (pe_op op_mulW (pv 1) (pv 2)) pe_int) pa_nil))) (pa_cons (pv 2) pa_nil)))))), ?_⟩
    show (_ : TS) _ [some _, some _, none] _
    try dsimp only [cxOf, Cx.nox]
    walk_at "go"
    rename_i p hp
    refine of_intN (ns := [1, 1, 2, 1, 3, 1, 2, 5]) (hb.new hp) lstS (hb.ne hp) (Nat.zero_lt_succ _) (show 8 ≤ 4000 by decide) fun x H1 hx b1 n1 => ?_
    obtain ⟨d, rfl, d0, d5, dd⟩ : ∃ d : Nat, x = (d : Int) ∧ 0 < d ∧ d ≤ 5 ∧ d ∣ 30 := by
      simp only [List.mem_cons, List.not_mem_nil, or_false] at hx
      rcases hx with rfl | rfl | rfl | rfl | rfl | rfl | rfl | rfl
      · exact ⟨1, rfl, by decide, by decide, by decide⟩
      · exact ⟨1, rfl, by decide, by decide, by decide⟩
      · exact ⟨2, rfl, by decide, by decide, by decide⟩
      · exact ⟨1, rfl, by decide, by decide, by decide⟩
      · exact ⟨3, rfl, by decide, by decide, by decide⟩
      · exact ⟨1, rfl, by decide, by decide, by decide⟩
      · exact ⟨2, rfl, by decide, by decide, by decide⟩
      · exact ⟨5, rfl, by decide, by decide, by decide⟩
    have e1 : Ext [b.a] H H1 := Ext.trans (Ext.refl.new hp) n1
    have h60 : M ≤ 1152921504606846976 := hM
    have mw : CMulW (M : Int) (d : Int) := cmul (m := 61) (n := 4) (Nat.lt_of_le_of_lt (by omega : (M : Int).natAbs ≤ 1152921504606846976) (by decide)) (Nat.lt_of_le_of_lt (by omega : (d : Int).natAbs ≤ 5) (by decide)) (by decide) (by decide) (by decide)
    have hmd : M * d ≤ 1152921504606846976 * 5 := Nat.mul_le_mul h60 d5
    walk_at "go"
    have e2 : (M : Int) * (d : Int) = ((M * d : Nat) : Int) := by rw [Int.natCast_mul]
    rw [e2]
    refine k_draw b1 (by omega) (Int.lt_of_le_of_lt (by omega : ((M * d : Nat) : Int) + 1 ≤ 1152921504606846976 * 5 + 1) (by decide)) fun y H2 y0 y1 b2 n2 => ?_
    walk_at "go"
    refine ⟨y.toNat, d, by rw [Int.toNat_of_nonneg y0], d0, Nat.lt_of_le_of_lt (by omega : y.toNat ≤ 1152921504606846976 * 5) (Nat.lt_of_lt_of_le (by decide) (Nat.pow_le_pow_right (by decide) (by decide : 100 ≤ 8900))), Nat.lt_of_le_of_lt d5 (Nat.lt_of_lt_of_le (by decide) (Nat.pow_le_pow_right (by decide) (by decide : 100 ≤ 8900))), fun v H3 e3 a3 => ?_⟩
    exact k v _ H3 a3 (In.frac d0 dd (by omega)) (b2.x0 e3) (e1.trans (n2.trans (e3.mono fun _ z => nomatch z)))
/-- a part: so many of so many -/
structure PartQ (q r : Rat) : Prop where
  ex : ∃ a b : Nat, a ≤ b ∧ 0 < b ∧ b ∣ 30 ∧ r = q * mkRat (a : Int) b
theorem PartQ.le {q r : Rat} (h : PartQ q r) (h0 : 0 ≤ q) : 0 ≤ r ∧ r ≤ q := by
  obtain ⟨a, b, hab, hb, _, rfl⟩ := h.ex
  have i : In b 1 (mkRat (a : Int) b) := In.frac hb (Nat.dvd_refl b) (by omega)
  have h1 := i.le
  have h2 := Rat.mul_le_mul_of_nonneg_left h1 h0
  refine ⟨Rat.mul_nonneg h0 i.nn, ?_⟩
  have e : q * ((1 : Nat) : Rat) = q := by norm_cast; grind
  rw [e] at h2
  exact h2
theorem PartQ.in_ {D M : Nat} {q r : Rat} (h : PartQ q r) (i : In D M q) : In (D * 30) M r := by
  obtain ⟨a, b, hab, hb, hd, e⟩ := h.ex
  have h1 : In 30 1 (mkRat (a : Int) b) := In.frac hb hd (by omega)
  have h2 := i.mul h1
  rw [e]
  rw [Nat.mul_one] at h2
  exact h2
def spPart (K : PySem.W.Frag) : Sp := fun vs H Q _ => ∃ (b : Bag) (v : V) (q : Rat), vs = [.ref b.a, v] ∧ BagAt K H b ∧ Am K H v q ∧ 0 ≤ q ∧ Sz 4000 q ∧ ∀ u r H', Am K H' u r → PartQ q r → BagAt K H' b → Ext [b.a] H H' → Q u H'
theorem part_pairs : ∀ p ∈ ([(1, 1), (0, 1), (1, 2), (1, 1), (2, 3), (1, 5)] : List (Nat × Nat)), p.1 ≤ p.2 ∧ 0 < p.2 ∧ p.2 ∣ 30 ∧ p.2 ≤ 5 := by decide
/-- a row of pairs of numbers -/
def Prs2 (K : PySem.W.Frag) (H : Hp) (xs : List V) (ps : List (Nat × Nat)) : Prop := Rel (fun v p => ∃ a, v = V.ref a ∧ SqT K H a [.int (p.1 : Int), .int (p.2 : Int)]) xs ps
abbrev s_law_part : Stmt := top 63
theorem c_law_part : FnScope ["_law_bag_here", "_law_one", "_law_top", "_law_bottom"] ["_law_bag_here", "_law_one"] (defScope s_law_part) := ⟨rfl, rfl, rfl, by decide +kernel, rfl, by decide +kernel, by decide +kernel⟩
theorem f_law_part (F : FunD K "_law_part" "_law_part" (defArgs s_law_part) (defBody s_law_part) (defScope s_law_part) [] [] f fd) (hm : mg "_law_part" = some (.ref f)) (T : Bt mg) (F_law_of : Fn P w K mg base 2 "_law_of" (spOf K)) (F_law_scaled : Fn P w K mg base 2 "_law_scaled" (spScaled K)) : Fn P w K mg base 3 "_law_part" (spPart K) := by
  refine fn_def F hm c_law_part (fun vs H Q E h => ?_) (fun _ _ _ _ _ _ us hl => match us, hl with | [_, _], _ => rfl) (fun cdv A outer s H vs Q E hr h => ?_)
  · obtain ⟨b, v, q, rfl, _⟩ := h
    rfl
  · obtain ⟨b, v, q, rfl, hb, hv, q0, hz, k⟩ := h
    have nd := c_law_part.nd
    refine ⟨_, (pss_cons (ps_asg (pe_fn F_law_of (hr.mono (by decide)) (pa_cons (pv 0) (pa_cons (pe_lst (pa_cons (pe_tup (pa_cons pe_int (pa_cons pe_int pa_nil))) (pa_cons (pe_tup (pa_cons pe_int (pa_cons pe_int pa_nil))) (pa_cons (pe_tup (pa_cons pe_int (pa_cons pe_int pa_nil))) (pa_cons (pe_tup (pa_cons pe_int (pa_cons pe_int pa_nil))) (pa_cons (pe_tup (pa_cons pe_int (pa_cons pe_int pa_nil))) (pa_cons (pe_tup (pa_cons pe_int (pa_cons pe_int pa_nil))) pa_nil))))))) pa_nil))) (pg_tup rfl (pgs_cons (pg_name (i := 2) nd rfl (by first | exact Or.inl rfl | exact Or.inr rfl)) (pgs_cons (pg_name (i := 3) nd rfl (by first | exact Or.inl rfl | exact Or.inr rfl)) pgs_nil))))
      (pss_one (ps_ret (pe_fn F_law_scaled (hr.mono (by decide)) (pa_cons (pv 1) (pa_cons (pv 2) (pa_cons (pv 3) pa_nil))))))), ?_⟩
    show (_ : TS) _ [some _, some _, none, none] _
    try dsimp only [cxOf, Cx.nox]
    walk_at "go"
    rename_i p1 h1 p2 h2 p3 h3 p4 h4 p5 h5 p6 h6 p hp
    have hbn : b.a ≠ p := BagAt.ne (hb.x0 (by walk_at "ext")) hp
    generalize hG : upd _ p _ = H1
    have e1 : Ext [] H H1 := by rw [← hG]; walk_at "ext"
    have hl : SqL K H1 p [.ref p1, .ref p2, .ref p3, .ref p4, .ref p5, .ref p6] := by rw [← hG]; exact lstS
    have hr : Prs2 K H1 [.ref p1, .ref p2, .ref p3, .ref p4, .ref p5, .ref p6] [(1, 1), (0, 1), (1, 2), (1, 1), (2, 3), (1, 5)] := by
      rw [← hG]
      refine .cons ⟨_, rfl, by walk_at "sq"⟩ (.cons ⟨_, rfl, by walk_at "sq"⟩ (.cons ⟨_, rfl, by walk_at "sq"⟩ (.cons ⟨_, rfl, by walk_at "sq"⟩ (.cons ⟨_, rfl, by walk_at "sq"⟩ (.cons ⟨_, rfl, by walk_at "sq"⟩ .nil)))))
    have b1 := hb.x0 e1
    refine ⟨b, p, _, rfl, b1, hl, hbn, Nat.zero_lt_succ _, show 6 ≤ 4000 by decide, fun i x H2 hx b2 n2 => ?_⟩
    obtain ⟨⟨s, t⟩, hst, a, rfl, ha⟩ := hr.at_ hx
    obtain ⟨hst1, ht0, htd, ht5⟩ := part_pairs _ (List.mem_of_getElem? hst)
    have ha2 : SqT K H2 a [.int (s : Int), .int (t : Int)] := tupX n2 ha fun x hx => by rw [List.mem_singleton.mp hx]; exact b1.lst
    walk_at "go"
    have lt4 : ∀ n : Nat, n ≤ 5 → n < 2 ^ 400 := fun n hn => Nat.lt_of_le_of_lt hn (Nat.lt_of_lt_of_le (by decide) (Nat.pow_le_pow_right (by decide) (by decide : 100 ≤ 400)))
    dsimp only at hst1 ht0 htd ht5
    refine ⟨v, q, s, t, rfl, (hv.x0 e1).b b1 n2, q0, ht0, hz, lt4 s (by omega), lt4 t ht5, fun u H3 e3 a3 => ?_⟩
    exact k u _ H3 a3 ⟨s, t, hst1, ht0, htd, rfl⟩ (b2.x0 e3) (e1.mono (fun _ z => nomatch z) |>.trans (n2.trans (e3.mono fun _ z => nomatch z)))
end
end Yk

set_option maxHeartbeats 4000000
namespace Yk
open PySem PySem.Spec PyProof.Rows L2

/-! Sums of rows by the law. -/
theorem szG {X M : Nat} {q : Rat} (h : In X M q) (h0 : 0 < X) (hX : X ≤ 2 ^ 400) (hM : M ≤ 2 ^ 400) : Sz 4000 q := (h.sz h0 hX hM).mono (by decide)
theorem sum_in {X M : Nat} : ∀ {l : List Rat}, (∀ q ∈ l, In X M q) → In X (l.length * M) (sumQ l)
  | [], _ => In.zero
  | q :: l, h => by
    rw [sumQ_cons, List.length_cons, Nat.add_mul, Nat.one_mul, Nat.add_comm]
    exact (h q List.mem_cons_self).add (sum_in fun x hx => h x (List.mem_cons_of_mem _ hx))
section
variable {P : Program} {w : World} {K : PySem.W.Frag} {mg : Str → Option Value} {base : Heap} {f : Addr} {fd : FuncData}
def spLAll (K : PySem.W.Frag) : Sp := fun vs H Q _ => ∃ t xs qs X M, vs = [V.ref t] ∧ SqL K H t xs ∧ Ams K H xs qs ∧ (∀ q ∈ qs, In X M q) ∧ 0 < X ∧ X ≤ 2 ^ 400 ∧ qs.length * M ≤ 2 ^ 400 ∧ RetAm K H Q (sumQ qs)
end
end Yk

set_option maxHeartbeats 4000000
namespace Yk
open PySem PySem.Spec PyProof.Rows L2

/-! plus, told of multiples of one part. -/
section
variable {P : Program} {w : World} {K : PySem.W.Frag} {mg : Str → Option Value} {base : Heap} {f : Addr} {fd : FuncData}
def spPlusIT (K : PySem.W.Frag) : Sp := fun vs H Q _ => ∃ t xs qs X M, vs = [V.ref t] ∧ SqT K H t xs ∧ Ams K H xs qs ∧ (∀ q ∈ qs, In X M q) ∧ 0 < X ∧ X ≤ 2 ^ 400 ∧ qs.length * M ≤ 2 ^ 400 ∧ RetAm K H Q (sumQ qs)
def spPlusI (K : PySem.W.Frag) : Sp := fun vs H Q _ => ∃ qs X M, Ams K H vs qs ∧ (∀ q ∈ qs, In X M q) ∧ 0 < X ∧ X ≤ 2 ^ 400 ∧ qs.length * M ≤ 2 ^ 400 ∧ qs.length ≤ 4000 ∧ RetAm K H Q (sumQ qs)
theorem g_plus (F : FunD K "plus" "plus" (defArgs s_plus) (defBody s_plus) (defScope s_plus) [] [] f fd) (hm : mg "plus" = some (.ref f)) (TZ : ∃ z, mg "ZERO" = some (.ref z) ∧ ∀ H, SqT K H z [.int 0, .int 1]) (F_added : Fn P w K mg base 1 "_added" (spAdded K)) : Fn P w K mg base 2 "plus" (spPlusI K) := by
  refine fn_star (ps := []) (pv := "amounts") (sp := spPlusIT K) F hm c_plus (fun _ _ _ _ _ _ us rest hl => match us, rest, hl with | [], [], _ => rfl | [], _ :: _, _ => rfl) (fun cdv A outer s H vs Q E hr h => ?_) ?himp
  case himp =>
    exact fun vs H Q E ⟨qs, X, M, h1, h2, h3, h4, h5, h6, k⟩ => ⟨[], vs, rfl, rfl, Nat.le_trans (by rw [h1.1]; exact h6 : vs.length ≤ 4000) (by decide), fun p hp => ⟨p, vs, qs, X, M, rfl, tupS, h1.x0 (Ext.refl.new hp), h2, h3, h4, h5, fun v H' e a => k v H' ((Ext.refl.new hp).trans e) a⟩⟩
  · obtain ⟨t, xs, qs, X, M, rfl, ht, ha, hz, hX, hX4, hl, k⟩ := h
    have nd := c_plus.nd
    obtain ⟨z, mz, TZ⟩ := TZ
    refine ⟨_, (pss_cons (ps_set (i := 1) nd rfl (by first | exact Or.inl rfl | exact Or.inr rfl) (pe_glob (v := .ref z) rfl mz rfl))
      (pss_cons (ps_for PassesOwn.never rfl (pi_tup (pv 0)) (pg_name (i := 2) nd rfl (by first | exact Or.inl rfl | exact Or.inr rfl))
        (pss_one (ps_set (i := 1) nd rfl (by first | exact Or.inl rfl | exact Or.inr rfl) (pe_fn F_added (hr.mono (by decide)) (pa_cons (pv 1) (pa_cons (pv 2) pa_nil))))))
      (pss_one (ps_ret (pv 1))))), ?_⟩
    show (_ : TS) _ [some _, none, none] _
    try dsimp only [cxOf, Cx.nox]
    walk_at "go"
    refine r_forT rfl ht (fun i σ H1 => Ext [] H H1 ∧ ∃ fv u, σ = [some (.ref t), some fv, u] ∧ Am K H1 fv (sumQ (qs.take i))) ⟨Ext.refl, _, _, rfl, ⟨z, rfl, TZ _⟩⟩ (fun i σ H1 _ h => tup0 h.1 ht) ?_ ?_
    · rintro i x σ H1 hx ⟨e1, fv, u, rfl, hf⟩
      have hi : i < qs.length := by rw [← ha.1]; exact (List.getElem?_eq_some_iff.mp hx).1
      have hq : qs[i]? = some qs[i] := List.getElem?_eq_getElem hi
      have hM : qs.length * M ≤ 2 ^ 400 := hl
      have h1M : M ≤ qs.length * M := Nat.le_mul_of_pos_left M (by omega)
      have hb : In X (qs.length * M) (sumQ (qs.take i)) := (sum_in fun q hq => hz q (List.mem_of_mem_take hq)).most (Nat.mul_le_mul_right M (by rw [List.length_take]; omega))
      have hq0 := hz _ (List.getElem_mem hi)
      walk_at "go"
      refine ⟨_, _, _, qs[i], rfl, hf, (ha.2 i x _ hx hq).x0 e1, szG hb hX hX4 hM, szG hq0 hX hX4 (Nat.le_trans h1M hM), fun v H' e a => ?_⟩
      walk_at "go"
      refine ⟨e1.trans e, _, _, rfl, ?_⟩
      rw [sumQ_take hq]
      exact a
    · rintro σ H1 ⟨e1, fv, u, rfl, hf⟩
      walk_at "go"
      rw [ha.1, List.take_length] at hf
      exact k _ _ e1 hf
end
end Yk

set_option maxHeartbeats 4000000
/-! len(set(v)), v a list or a tuple of texts that all differ (the library's rule reaches one text). -/
namespace YkS
open PySem PySem.Spec PyProof.Rows
theorem take_mem {xs : List Str} (hd : xs.Nodup) {i : Nat} (hi : i < xs.length) : xs.getD i Str.empty ∉ xs.take i := by
  rw [List.getD_eq_getElem?_getD, List.getElem?_eq_getElem hi, Option.getD_some]
  intro h
  obtain ⟨j, hj, e⟩ := List.mem_take_iff_getElem.mp h
  have hj' : j < i := by omega
  exact absurd (List.getElem_inj (h₀ := by omega) (h₁ := hi) hd |>.mp e) (by omega)
theorem take_next {xs : List Str} {i : Nat} (hi : i < xs.length) (z : Str) : (decide (z ∈ xs.take i) || decide (z = xs.getD i Str.empty)) = decide (z ∈ xs.take (i + 1)) := by
  have e : xs.take (i + 1) = xs.take i ++ [xs[i]] := by
    rw [List.take_add_one, List.getElem?_eq_getElem hi]
    rfl
  have e2 : xs.getD i Str.empty = xs[i] := by rw [List.getD_eq_getElem?_getD, List.getElem?_eq_getElem hi, Option.getD_some]
  rw [e, e2, Bool.eq_iff_iff, Bool.or_eq_true, decide_eq_true_iff, decide_eq_true_iff, decide_eq_true_iff, List.mem_append, List.mem_singleton]
section
variable {prog : Program} {w : World} {A : Around} {R : Result → Shared → Prop} {I : Addr} {fp wr : List Addr} {G : Array GenState → Array GenState → Prop} {n : Nat} {P : Nat → Value → Prop} {St : Nat → Shared → Prop}
/-- texts that all differ go into the set one behind the other: it has one more each time -/
theorem fills (W : WalksS prog w A.in1 I fp wr G n P St) {S : Addr} (hS : S ∉ fp) {xs : List Str} (hd : xs.Nodup) (hl : xs.length = n) (hb : n + 1 < scanBound) (hv : ∀ i v, P i v → ∃ t, v = .str (xs.getD i Str.empty) t) (m : Nat) :
    ∀ (i : Nat) (s : Shared), i + m = n → St i s → s.heap.SetOf (PySem.strKind prog w) S (fun z => decide (z ∈ xs.take i)) i →
      (∀ s', Moved (S :: wr) G s s' → s'.heap.SetOf (PySem.strKind prog w) S (fun z => decide (z ∈ xs.take n)) n → R (.ok (.ret .none)) s') → codeAny (model prog w) A (.builtin "set.update.loop" ⟨[.ref S, .ref I], []⟩) R s := by
  have nw : S ∉ wr := fun h => hS (W.sub _ h)
  have up : ∀ b ∈ wr, b ∈ S :: wr := fun b h => List.mem_cons_of_mem _ h
  have mv : ∀ {i : Nat} {s s' : Shared}, Moved wr G s s' → s.heap.SetOf (PySem.strKind prog w) S (fun z => decide (z ∈ xs.take i)) i → s'.heap.SetOf (PySem.strKind prog w) S (fun z => decide (z ∈ xs.take i)) i := fun hm h => by
    obtain ⟨o, es, ep, t, ho, r⟩ := h
    exact ⟨o, es, ep, t, hm.heap S _ nw ho, r⟩
  induction m with
  | zero =>
    intro i s e st hs k
    obtain rfl : i = n := by omega
    refine codeAny_builtin PyProof.Rows.F.entry_set_update_loop ?_
    rw [Around.under_plainId PyProof.Rows.F.plain_set_update_loop _]
    show wpAny _ A.in1 (pyNext (.ref I) >>= _) _ _ s
    exact wpAny_bind (W.done s _ _ st fun s' hm => wpAny_pure (k s' (hm.mono up) (mv hm hs)))
  | succ m ih =>
    intro i s e st hs k
    have hi : i < n := by omega
    refine codeAny_builtin PyProof.Rows.F.entry_set_update_loop ?_
    rw [Around.under_plainId PyProof.Rows.F.plain_set_update_loop _]
    show wpAny _ A.in1 (pyNext (.ref I) >>= _) _ _ s
    refine wpAny_bind (W.item i s _ _ hi st fun v s1 hp st1 hm => ?_)
    obtain ⟨t, rfl⟩ := hv i v hp
    show wpAny _ A.in1 (holding [Value.str (xs.getD i Str.empty) t] (setAdd S (.str (xs.getD i Str.empty) t)) >>= _) _ _ s1
    refine wpAny_bind (wpAny_holding ?_)
    unfold setAdd
    refine wpAny_holding (wpAny_bind ((PySem.strKind prog w).pyHash (k := xs.getD i Str.empty) (strKind_is _ _ _ _) ?_))
    refine wpAny_setAddHashed_of (knd := PySem.strKind prog w) (s := { s1 with toks := s1.toks + 1 }) (strKind_is _ _ _ _) rfl (mv (s' := s1) hm hs) (by omega) fun h' same hs2 => ?_
    have hs3 : h'.SetOf (PySem.strKind prog w) S (fun z => decide (z ∈ xs.take (i + 1))) (i + 1) :=
      SetOf_congr hs2 (fun z => take_next (by omega) z) (by rw [decide_eq_false (take_mem hd (by omega))] <;> rfl)
    refine wpAny_pure ⟨plainId_quiet PyProof.Rows.F.plain_set_update_loop _, ih (i + 1) _ (by omega) (W.frame _ s1 _ _ st1 (Nat.le_succ _) fun b hb o ho => ?_) hs3 fun s2 hm2 hs4 => ?_⟩
    · rw [same.2 b fun z : b = S => hS (z ▸ hb)]
      exact ho
    · refine k s2 (Moved.trans W.gtrans ((hm.mono up).then_heap (Nat.le_succ _) fun b o hb ho => ?_) hm2) hs4
      rw [same.2 b fun z : b = S => hb (z ▸ List.mem_cons_self)]
      exact ho
end
/-- an empty set, new -/
def So (b : Bool) : Obj := { cls := .type "set", dict := none, data := .set #[] 0 (.fresh 0 0 b) }

section
variable {prog : Program} {w : World} {A : Around} {E : Value → Shared → Prop} {s : Shared} {l : Addr} {items : Array Value} {xs : List Str} {Q : Value → Shared → Prop}
theorem set_list (hh : A.handled = none) (hl : s.heap.IsList l items) (hi : StrsAre items.toList xs) (hd : xs.Nodup) (hb : items.size + 1 < scanBound)
    (h : ∀ (h' : Heap) (tk : Nat), h'.SetOf (PySem.strKind prog w) s.heap.objs.size (fun z => decide (z ∈ xs.take items.size)) items.size → (∀ b o, b < s.heap.objs.size → s.heap.get? b = some o → h'.get? b = some o) → Q (.ref s.heap.objs.size) { s with heap := h', toks := tk }) :
    wpAny (model prog w) A (call (.type "set") [.ref l]) Q E s := by
  obtain ⟨c, tl, hmro⟩ := PySem.F.called_set.mro
  have hmade := PySem.F.called_set.made
  have hsub := PySem.F.called_set.sub
  refine wpAny_call (codeAny_of_tree ?_)
  show wpAny _ _ (callAny (.type "set") _) _ _ _
  refine wpAny_pure ⟨Code.quiet_builtin _ (by decide +kernel), codeAny_builtin PySem.F.entry_type_call ?_⟩
  rw [Around.under_plain (weight_type_call_type "set" [.ref l] []) rfl]
  have g1 := PySem.F.called_set.notType
  have g2 := PySem.F.called_set.canCreate
  have g3 := PySem.F.typeCall_set_1 (.ref l)
  repeat (any_goals (first | assumption | wp_step))
  refine codeAny_mono (code_set_new_1 (.ref l) (E := E) (Q₁ := fun u s1 => ∃ b : Bool, u = .ref s.heap.objs.size ∧ s1 = { s with heap := s.heap.push (So b) }) fun b => ⟨b, rfl, rfl⟩) fun r s1 hr => ?_
  rcases r with e | fl
  · exact hr
  cases fl with
  | ret u =>
    obtain ⟨b, rfl, rfl⟩ := hr
    have hS : (s.heap.push (So b)).get? s.heap.objs.size = some (So b) := Heap.get?_push_size _ rfl
    have hT : Shared.TypeIs { s with heap := s.heap.push (So b) } (.ref s.heap.objs.size) "set" := ⟨_, hS, rfl⟩
    have g4 := PySem.F.called_set.init.lookup
    have g5 := PySem.F.called_set.init.bind (.ref s.heap.objs.size)
    repeat (any_goals (first | assumption | wp_step))
    refine codeAny_mono (codeAny_call_builtin (R := wants (fun r s2 => r = .none ∧ ∃ h' tk, s2 = { s with heap := h', toks := tk } ∧ h'.SetOf (PySem.strKind prog w) s.heap.objs.size (fun z => decide (z ∈ xs.take items.size)) items.size ∧
      ∀ b o, b < s.heap.objs.size → s.heap.get? b = some o → h'.get? b = some o) E) PySem.F.called_set.init.plain PySem.F.entry_set_init (check_set_init_1 hT ?_)) fun r2 s2 hr2 => ?_
    · obtain ⟨⟨oc, od, dt, sl⟩, ho, hc, nl, hd2⟩ := hl
      simp only at hc hd2
      subst hc
      subst hd2
      have ho1 : (s.heap.push (So b)).get? l = some { cls := .type "list", dict := od, data := .seq items nl, slots := sl } := Heap.get?_push_of_some _ ho
      have f1 := PySem.F.sub_list_set
      have f2 := PySem.F.sub_list_frozenset
      have f3 : (Value.type "list" == Value.type "dict") = false := by decide
      have hl1 : (s.heap.push (So b)).IsList l items := ⟨_, ho1, rfl, nl, rfl⟩
      unfold Builtin.«set.__init__» noKeywords Builtin.Frozenset.updateFrom
      generalize hPI : pyIter = PI
      wp_walk
      subst hPI
      refine wpAny_pyIter_list hl1 (wpAny_bind (wpAny_runValue ?_))
      have lt : l < s.heap.objs.size := Heap.lt_size ho
      have h3 : A.in1.in1.in1.handled = none := by simp [hh]
      have ne : l ≠ (s.heap.push (So b)).objs.size := by
        rw [Heap.size_push]
        exact Nat.ne_of_lt (Nat.lt_succ_of_lt lt)
      have nf : s.heap.objs.size ∉ [(s.heap.push (So b)).objs.size, l] := by
        rw [Heap.size_push]
        simp only [List.mem_cons, List.not_mem_nil, or_false, not_or]
        exact ⟨Nat.ne_of_lt (Nat.lt_succ_self _), Nat.ne_of_gt lt⟩
      have ln : xs.length = items.size := by rw [← StrsAre.len_eq hi, Array.length_toList]
      refine fills ((Walks.list h3 _ l ne items).toS) nf hd ln (by omega) (fun i v hv => SS.strs_at hi i v (by rw [Array.getElem?_toList]; exact hv)) items.size 0 _ (by omega) ⟨⟨_, Heap.get?_push_size _ rfl, rfl, rfl⟩, hl1.push _⟩ ?h0 ?hk
      case h0 =>
        have hg : ((s.heap.push (So b)).push { cls := .type "list_iterator", data := .fields #[.ref l, .int 0 0] }).get? s.heap.objs.size = some (So b) := Heap.get?_push_of_some _ hS
        exact SetOf_congr ((setObjOf_fresh (knd := PySem.strKind prog w) b).setOf hg (by unfold scanBound; omega)) (fun _ => rfl) rfl
      case hk =>
        intro s3 hm hs3
        obtain ⟨h', g', d', tk', os'⟩ := s3
        obtain rfl : g' = s.gens := hm.gens
        obtain rfl : d' = s.drawn := hm.drawn
        obtain rfl : os' = s.os := hm.os
        show wpAny _ _ _ _ _ _
        refine wpAny_pure ?_
        show wpAny _ _ (ret Value.none) _ _ _
        refine wpAny_pure ⟨rfl, h', tk', rfl, hs3, fun c o hc e => ?_⟩
        exact hm.heap c o (by
          rw [Heap.size_push]
          simp only [List.mem_cons, List.not_mem_nil, or_false, not_or]
          exact ⟨Nat.ne_of_lt hc, Nat.ne_of_lt (Nat.lt_succ_of_lt hc)⟩) (Heap.get?_push_of_some _ (Heap.get?_push_of_some _ e))
    · rcases r2 with e | fl2
      · exact hr2
      cases fl2 with
      | ret r =>
        obtain ⟨rfl, h', tk, rfl, hs3, kp⟩ := hr2
        repeat (any_goals (first | assumption | wp_step))
        exact h _ _ hs3 kp
      | _ => exact hr2.elim
  | _ => exact hr.elim
theorem set_tuple (hh : A.handled = none) (hl : s.heap.IsTuple l items) (hi : StrsAre items.toList xs) (hd : xs.Nodup) (hb : items.size + 1 < scanBound)
    (h : ∀ (h' : Heap) (tk : Nat), h'.SetOf (PySem.strKind prog w) s.heap.objs.size (fun z => decide (z ∈ xs.take items.size)) items.size → (∀ b o, b < s.heap.objs.size → s.heap.get? b = some o → h'.get? b = some o) → Q (.ref s.heap.objs.size) { s with heap := h', toks := tk }) :
    wpAny (model prog w) A (call (.type "set") [.ref l]) Q E s := by
  obtain ⟨c, tl, hmro⟩ := PySem.F.called_set.mro
  have hmade := PySem.F.called_set.made
  have hsub := PySem.F.called_set.sub
  refine wpAny_call (codeAny_of_tree ?_)
  show wpAny _ _ (callAny (.type "set") _) _ _ _
  refine wpAny_pure ⟨Code.quiet_builtin _ (by decide +kernel), codeAny_builtin PySem.F.entry_type_call ?_⟩
  rw [Around.under_plain (weight_type_call_type "set" [.ref l] []) rfl]
  have g1 := PySem.F.called_set.notType
  have g2 := PySem.F.called_set.canCreate
  have g3 := PySem.F.typeCall_set_1 (.ref l)
  repeat (any_goals (first | assumption | wp_step))
  refine codeAny_mono (code_set_new_1 (.ref l) (E := E) (Q₁ := fun u s1 => ∃ b : Bool, u = .ref s.heap.objs.size ∧ s1 = { s with heap := s.heap.push (So b) }) fun b => ⟨b, rfl, rfl⟩) fun r s1 hr => ?_
  rcases r with e | fl
  · exact hr
  cases fl with
  | ret u =>
    obtain ⟨b, rfl, rfl⟩ := hr
    have hS : (s.heap.push (So b)).get? s.heap.objs.size = some (So b) := Heap.get?_push_size _ rfl
    have hT : Shared.TypeIs { s with heap := s.heap.push (So b) } (.ref s.heap.objs.size) "set" := ⟨_, hS, rfl⟩
    have g4 := PySem.F.called_set.init.lookup
    have g5 := PySem.F.called_set.init.bind (.ref s.heap.objs.size)
    repeat (any_goals (first | assumption | wp_step))
    refine codeAny_mono (codeAny_call_builtin (R := wants (fun r s2 => r = .none ∧ ∃ h' tk, s2 = { s with heap := h', toks := tk } ∧ h'.SetOf (PySem.strKind prog w) s.heap.objs.size (fun z => decide (z ∈ xs.take items.size)) items.size ∧
      ∀ b o, b < s.heap.objs.size → s.heap.get? b = some o → h'.get? b = some o) E) PySem.F.called_set.init.plain PySem.F.entry_set_init (check_set_init_1 hT ?_)) fun r2 s2 hr2 => ?_
    · obtain ⟨⟨oc, od, dt, sl⟩, ho, hc, nl, hd2⟩ := hl
      simp only at hc hd2
      subst hc
      subst hd2
      have ho1 : (s.heap.push (So b)).get? l = some { cls := .type "tuple", dict := od, data := .seq items nl, slots := sl } := Heap.get?_push_of_some _ ho
      have f1 := PySem.F.sub_tuple_set
      have f2 := PySem.F.sub_tuple_frozenset
      have f3 : (Value.type "tuple" == Value.type "dict") = false := by decide
      have hl1 : (s.heap.push (So b)).IsTuple l items := ⟨_, ho1, rfl, nl, rfl⟩
      unfold Builtin.«set.__init__» noKeywords Builtin.Frozenset.updateFrom
      generalize hPI : pyIter = PI
      wp_walk
      subst hPI
      refine wpAny_pyIter_tuple hl1 (wpAny_bind (wpAny_runValue ?_))
      have lt : l < s.heap.objs.size := Heap.lt_size ho
      have h3 : A.in1.in1.in1.handled = none := by simp [hh]
      have ne : l ≠ (s.heap.push (So b)).objs.size := by
        rw [Heap.size_push]
        exact Nat.ne_of_lt (Nat.lt_succ_of_lt lt)
      have nf : s.heap.objs.size ∉ [(s.heap.push (So b)).objs.size, l] := by
        rw [Heap.size_push]
        simp only [List.mem_cons, List.not_mem_nil, or_false, not_or]
        exact ⟨Nat.ne_of_lt (Nat.lt_succ_self _), Nat.ne_of_gt lt⟩
      have ln : xs.length = items.size := by rw [← StrsAre.len_eq hi, Array.length_toList]
      refine fills ((Walks.tuple h3 _ l ne items).toS) nf hd ln (by omega) (fun i v hv => SS.strs_at hi i v (by rw [Array.getElem?_toList]; exact hv)) items.size 0 _ (by omega) ⟨⟨_, Heap.get?_push_size _ rfl, rfl, rfl⟩, hl1.push _⟩ ?h0 ?hk
      case h0 =>
        have hg : ((s.heap.push (So b)).push { cls := .type "tuple_iterator", data := .fields #[.ref l, .int 0 0] }).get? s.heap.objs.size = some (So b) := Heap.get?_push_of_some _ hS
        exact SetOf_congr ((setObjOf_fresh (knd := PySem.strKind prog w) b).setOf hg (by unfold scanBound; omega)) (fun _ => rfl) rfl
      case hk =>
        intro s3 hm hs3
        obtain ⟨h', g', d', tk', os'⟩ := s3
        obtain rfl : g' = s.gens := hm.gens
        obtain rfl : d' = s.drawn := hm.drawn
        obtain rfl : os' = s.os := hm.os
        show wpAny _ _ _ _ _ _
        refine wpAny_pure ?_
        show wpAny _ _ (ret Value.none) _ _ _
        refine wpAny_pure ⟨rfl, h', tk', rfl, hs3, fun c o hc e => ?_⟩
        exact hm.heap c o (by
          rw [Heap.size_push]
          simp only [List.mem_cons, List.not_mem_nil, or_false, not_or]
          exact ⟨Nat.ne_of_lt hc, Nat.ne_of_lt (Nat.lt_succ_of_lt hc)⟩) (Heap.get?_push_of_some _ (Heap.get?_push_of_some _ e))
    · rcases r2 with e | fl2
      · exact hr2
      cases fl2 with
      | ret r =>
        obtain ⟨rfl, h', tk, rfl, hs3, kp⟩ := hr2
        repeat (any_goals (first | assumption | wp_step))
        exact h _ _ hs3 kp
      | _ => exact hr2.elim
  | _ => exact hr.elim
end
end YkS
namespace Yk
open PySem PySem.Spec PyProof.Rows L2
section
variable {X : Cx}
/-- len(set(xs)), xs a list or a tuple of texts that all differ -/
def tLenSetQ (K : PySem.W.Frag) (ta : TE) : TE := fun σ H Q => ta σ H fun x H1 => ∃ (l : Addr) (xs : List Str), x = .ref l ∧ SqQ K H1 l (xs.map V.str) ∧ xs.Nodup ∧ xs.length ≤ 4000 ∧ Q (.int xs.length) H1
theorem pe_lenSetQ {a : Expr} {ta : TE} {p p2 q pos : Pos} (hc : X.calm = true) (hm : X.mg "len" = none) (hm2 : X.mg "set" = none) (ha : PE X a ta) (hg : Gl X "len" := by rfl) (hg2 : Gl X "set" := by rfl)
    (na : starEach [a] X.env = (false, eval a X.env) :: starEach [] X.env := by rfl) : PE X (.Call (.Name "len" p) [.Call (.Name "set" p2) [a] [] q] [] pos) (tLenSetQ X.K ta) := by
  refine ⟨fun pins s σ H Q I h => ?_⟩
  refine Call_ (ld_blt I hg hm boot_len ?_)
  refine PyProof.Rows.callWith_builtin1 (PyProof.Rows.args_cons ?_ rfl) rfl rfl
  refine Call_ (ld_blt I hg2 hm2 boot_set ?_)
  refine PyProof.Rows.callWith_type1 (PyProof.Rows.args_cons (thn (ha.run pins s σ H _ I h) fun v s1 ⟨x, H1, I1, r1, q1⟩ => PyProof.Rows.args_nil ?_) na) na rfl
  obtain ⟨l, xs, rfl, hq, hd, hl, q1⟩ := q1
  cases r1
  have fin : ∀ (its : List Value), Vals (xs.map V.str) its → ∀ (h' : Heap) (tk : Nat), h'.SetOf (PySem.strKind X.prog X.w) s1.heap.objs.size (fun z => decide (z ∈ xs.take its.toArray.size)) its.toArray.size → (∀ b o, b < s1.heap.objs.size → s1.heap.get? b = some o → h'.get? b = some o) →
      wpAny (model X.prog X.w) X.A (spliced (backTo pos (starEach [] X.env))) (fun vs s₂ => wpAny (model X.prog X.w) X.A (call (.builtin "len") (Value.ref s1.heap.objs.size :: vs)) (EP X pins σ Q) X.xe s₂) X.xe { s1 with heap := h', toks := tk } := fun its r h' tk hS hk => by
    refine PyProof.Rows.args_nil ?_
    have e : its.toArray.size = xs.length := by rw [List.size_toArray, ← r.length, List.length_map]
    rw [e] at hS
    obtain ⟨o, es, ep, t, ho, hex, hd, _, _, _, hf, hn⟩ := hS
    have I2 : Inv X pins σ H1 { s1 with heap := h', toks := tk } := I1.kept fun b o e => hk b o (Heap.lt_size e) e
    exact call_len_set ho hex hd hf (by rw [hn] <;> omega) ⟨.int xs.length, H1, I2.tok _, ⟨_, by rw [hn]⟩, q1⟩
  have bd : ∀ {its : List Value}, Vals (xs.map V.str) its → its.toArray.size + 1 < scanBound := fun r => by
    rw [List.size_toArray, ← r.length, List.length_map]
    unfold scanBound
    omega
  rcases hq with hq | hq
  · obtain ⟨its, r, pl, hz⟩ := I1.list hq
    exact YkS.set_list (I1.ok.hd hc) pl.isList (by simpa using strsAre_of r) hd (bd r) fun h' tk hS hk => fin its r h' tk hS hk
  · obtain ⟨its, r, pl, hz⟩ := I1.tuple hq
    exact YkS.set_tuple (I1.ok.hd hc) pl (by simpa using strsAre_of r) hd (bd r) fun h' tk hS hk => fin its r h' tk hS hk
end
end Yk

set_option maxHeartbeats 8000000
namespace Yk
open PySem PySem.Spec PyProof.Rows L2

local macro_rules | `(tactic| walk_at "st") => `(tactic| first
  | with_reducible refine' r_tAt ?_
  | ((with_reducible refine' r_fld ?h1 ?h2 ?h3); (case h1 => first | assumption | exact upd_same); (case h2 => first | walk_at "lk" | rfl))
  | with_reducible refine' r_sAt ?_
  | ((with_reducible refine' r_putU ?h1 ?h2); (case h1 => (repeat refine putF_lt ?_); decide))
  | ((with_reducible refine' r_put ?h1 ?h2 ?h3); (case h1 => first | assumption | exact upd_same); (case h2 => (repeat refine putF_lt ?_); decide))
  | with_reducible refine' r_tMt ?_
  | ((with_reducible refine' r_met ?h1 ?h2 ?h3); (case h1 => first | assumption | exact upd_same); (case h2 => first | walk_at "lk" | rfl))
  | with_reducible refine' r_tCr ?_
  | with_reducible refine' r_tCrK ?_
  | with_reducible refine' r_chain ?_)
/-! Names, small amounts, links: of right values. -/
def nameB (s : Str) : Bool := decide (s.length ≤ 6) && Txt.isascii s && Txt.isalpha s && Txt.islower s
structure SmQ (q : Rat) : Prop where
  n0 : 0 ≤ q
  le : q ≤ 1000
  den : q.den ≤ 12
theorem SmQ.sz {q : Rat} (h : SmQ q) {n : Nat} (hn : 20 ≤ n) : Sz n q := by
  have h1 := num_nn h.n0
  have h2 : q.num ≤ 1000 * (q.den : Int) := by
    have := (Rat.le_iff q 1000).mp h.le
    simpa using this
  have h3 := h.den
  have h4 : (2 : Nat) ^ 20 ≤ 2 ^ n := Nat.pow_le_pow_right (by decide) hn
  refine ⟨Nat.lt_of_lt_of_le ?_ h4, Nat.lt_of_lt_of_le ?_ h4⟩ <;> omega
section
variable {P : Program} {w : World} {K : PySem.W.Frag} {mg : Str → Option Value} {base : Heap} {f : Addr} {fd : FuncData}
def spIsName : Sp := fun vs H Q _ => ∃ s : Str, vs = [.str s] ∧ s.length ≤ 6 ∧ Q (.bl (nameB s)) H
abbrev s_is_name : Stmt := top 5
theorem c_is_name : FnScope ["value"] ["value"] (defScope s_is_name) := ⟨rfl, rfl, rfl, by decide +kernel, rfl, by decide +kernel, by decide +kernel⟩
theorem f_is_name (F : FunD K "is_name" "is_name" (defArgs s_is_name) (defBody s_is_name) (defScope s_is_name) [] [] f fd) (hm : mg "is_name" = some (.ref f)) (T : Bt mg) : Fn P w K mg base 1 "is_name" (spIsName) := by
  refine fn_def F hm c_is_name (fun vs H Q E h => ?_) (fun _ _ _ _ _ _ us hl => match us, hl with | [_], _ => rfl) (fun cdv A outer s H vs Q E hr h => ?_)
  · obtain ⟨s, rfl, _⟩ := h
    rfl
  · obtain ⟨s, rfl, h6, k⟩ := h
    have nd := c_is_name.nd
    refine ⟨_, (pss_cons (ps_if (PW.pt (pw_or (pt_not (pt_val (pe_callB call_isi (by rfl) T.isinstance (by decide +kernel) (pa_cons (pv 0) (pa_cons (pe_bltn (v := .ty "str") (by rfl) T.str (by decide +kernel) rfl) pa_nil))))) (pw_or1 (pt_cmpR op_gt (pe_callB call_len_str (by rfl) T.len (by decide +kernel) (pa_cons (pv 0) pa_nil)) pe_int (nomark _)))))
        (pss_one (ps_ret pe_bl))
        pss_nil)
      (pss_one (ps_ret (pe_and (pe_bm0 PySem.F.plainAttrs_str PySem.F.slot_str_isascii PySem.F.type_str_isascii mt_isascii (pv 0)) (pe_and (pe_bm0 PySem.F.plainAttrs_str PySem.F.slot_str_isalpha PySem.F.type_str_isalpha mt_isalpha (pv 0)) (pe_one (pe_bm0 PySem.F.plainAttrs_str PySem.F.slot_str_islower PySem.F.type_str_islower mt_islower (pv 0)))))))), ?_⟩
    show (_ : TS) _ [some _] _
    try dsimp only [cxOf, Cx.nox]
    walk_at "run"
    refine ⟨_, rfl, Nat.le_trans h6 (by decide), ?_⟩
    walk_at "run"
    refine r_false (decide_eq_false (by omega)) ?_
    walk_at "run"
    unfold nameB at k
    rw [decide_eq_true h6, Bool.true_and] at k
    refine ⟨rfl, _, rfl, rfl, trivial, ?_⟩
    walk_at "run"
    cases e1 : Txt.isascii s with
    | false =>
      rw [e1] at k
      exact r_false rfl k
    | true =>
      refine r_true rfl ?_
      rw [e1, Bool.true_and] at k
      walk_at "run"
      refine ⟨rfl, _, rfl, rfl, trivial, ?_⟩
      walk_at "run"
      cases e2 : Txt.isalpha s with
      | false =>
        rw [e2] at k
        exact r_false rfl k
      | true =>
        refine r_true rfl ?_
        rw [e2, Bool.true_and] at k
        walk_at "run"
        exact ⟨rfl, _, rfl, rfl, trivial, k⟩
def spWithin : Sp := fun vs H Q _ => ∃ n a b : Int, vs = [.int n, .int a, .int b] ∧ Q (.bl (decide (a ≤ n) && decide (n ≤ b))) H
abbrev s_is_number_within : Stmt := top 4
theorem c_is_number_within : FnScope ["value", "first", "last"] ["value", "first", "last"] (defScope s_is_number_within) := ⟨rfl, rfl, rfl, by decide +kernel, rfl, by decide +kernel, by decide +kernel⟩
theorem f_is_number_within (F : FunD K "is_number_within" "is_number_within" (defArgs s_is_number_within) (defBody s_is_number_within) (defScope s_is_number_within) [] [] f fd) (hm : mg "is_number_within" = some (.ref f)) (Fis_number : Fn P w K mg base 1 "is_number" (spIsNum K)) : Fn P w K mg base 2 "is_number_within" (spWithin) := by
  refine fn_def F hm c_is_number_within (fun vs H Q E h => ?_) (fun _ _ _ _ _ _ us hl => match us, hl with | [_, _, _], _ => rfl) (fun cdv A outer s H vs Q E hr h => ?_)
  · obtain ⟨n, a, b, rfl, _⟩ := h
    rfl
  · obtain ⟨n, a, b, rfl, k⟩ := h
    have nd := c_is_number_within.nd
    refine ⟨_, (pss_one (ps_ret (pe_and (pe_fn Fis_number (hr.mono (by decide)) (pa_cons (pv 0) pa_nil)) (pe_one (pe_chain op_le op_le (pv 1) (pv 0) (pv 2)))))), ?_⟩
    show (_ : TS) _ [some _, some _, some _] _
    try dsimp only [cxOf, Cx.nox]
    walk_at "run"
    refine ⟨n, rfl, ?_⟩
    walk_at "run"
    cases e1 : decide (a ≤ n) with
    | false =>
      rw [e1] at k
      exact r_false rfl k
    | true =>
      refine r_true rfl ?_
      rw [e1, Bool.true_and] at k
      walk_at "run"
      exact k
def spSmall (K : PySem.W.Frag) : Sp := fun vs H Q _ => ∃ (v : V) (q : Rat), vs = [v] ∧ Am K H v q ∧ SmQ q ∧ Q (.bl true) H
abbrev s_is_small : Stmt := top 15
theorem c_is_small : FnScope ["value"] ["value"] (defScope s_is_small) := ⟨rfl, rfl, rfl, by decide +kernel, rfl, by decide +kernel, by decide +kernel⟩
theorem f_is_small (F : FunD K "is_small" "is_small" (defArgs s_is_small) (defBody s_is_small) (defScope s_is_small) [] [] f fd) (hm : mg "is_small" = some (.ref f)) (TT : ∃ z, mg "TOP" = some (.ref z) ∧ ∀ H, SqT K H z [.int 1000, .int 1]) (SB : ∃ t, mg "SMALL_BOTTOM" = some (.int 12 t)) (Fis_amount : Fn P w K mg base 2 "is_amount" (spIsAm K)) (Fcompare : Fn P w K mg base 1 "compare" (spCompare K)) : Fn P w K mg base 3 "is_small" (spSmall K) := by
  refine fn_def F hm c_is_small (fun vs H Q E h => ?_) (fun _ _ _ _ _ _ us hl => match us, hl with | [_], _ => rfl) (fun cdv A outer s H vs Q E hr h => ?_)
  · obtain ⟨v, q, rfl, _⟩ := h
    rfl
  · obtain ⟨v, q, rfl, hv, hq, k⟩ := h
    have nd := c_is_small.nd
    obtain ⟨tz, mtz, htz⟩ := TT; obtain ⟨tb, msb⟩ := SB
    refine ⟨_, (pss_one (ps_ret (pe_and (pe_fn Fis_amount (hr.mono (by decide)) (pa_cons (pv 0) pa_nil)) (pe_and (pe_cmpR op_le (pe_ix ix_tup (pv 0) pe_int (fun _ _ => rfl)) (pe_glob (v := .int 12) rfl msb ⟨_, rfl⟩) (nomark _)) (pe_one (pe_cmpR op_le (pe_fn Fcompare (hr.mono (by decide)) (pa_cons (pv 0) (pa_cons (pe_glob (v := .ref tz) rfl mtz rfl) pa_nil))) pe_int (nomark _))))))), ?_⟩
    show (_ : TS) _ [some _] _
    try dsimp only [cxOf, Cx.nox]
    walk_at "run"
    refine ⟨v, q, rfl, hv, hq.n0, ?_⟩
    obtain ⟨a, rfl, ha⟩ := id hv
    walk_at "run"
    refine r_true (decide_eq_true (by have := hq.den; omega)) ?_
    walk_at "run"
    refine ⟨.ref a, .ref tz, q, 1000, rfl, hv, ⟨tz, rfl, htz _⟩, hq.sz (by decide), ⟨by decide +kernel, by decide +kernel⟩, ?_⟩
    walk_at "run"
    have e : decide (cmpQ q 1000 ≤ 0) = true := by
      refine decide_eq_true ?_
      unfold cmpQ
      have := hq.le
      split
      · decide
      · split
        · grind
        · decide
    rw [e]
    exact k
def spCapacity (K : PySem.W.Frag) : Sp := fun vs H Q _ => ∃ (v u : V) (q p : Rat), vs = [v, u] ∧ Am K H v q ∧ Am K H u p ∧ SmQ q ∧ SmQ p ∧ 0 < q ∧ q ≤ p ∧ Q (.bl true) H
def LinkFs (n : Str) (vc vl : V) (w : Int) (d : Str) (b : Bool) : List (Str × V) := [("name", .str n), ("capacity", vc), ("low", vl), ("way", .int w), ("discipline", .str d), ("strange", .bl b)]
def spLinkInit (cL : Addr) (K : PySem.W.Frag) : Sp := fun vs H Q _ => ∃ (a dx : Addr) (n : Str) (vc vl : V) (c l : Rat) (w : Int) (d : Str) (b : Bool), vs = [.ref a, .str n, vc, vl, .int w, .str d, .bl b] ∧ H a = some (.ins cL dx []) ∧ n.length ≤ 6 ∧ nameB n = true ∧ Am K H vc c ∧ Am K H vl l ∧ SmQ c ∧ SmQ l ∧ 0 < c ∧ 0 < l ∧ l ≤ c ∧ 1 ≤ w ∧ w ≤ 20 ∧ (d = "own" ∨ d = "spare" ∨ d = "ranks") ∧ Q .non (upd H a (.ins cL dx (LinkFs n vc vl w d b)))
end
end Yk

set_option maxHeartbeats 8000000
namespace Yk
open PySem PySem.Spec PyProof.Rows L2

local macro_rules | `(tactic| walk_at "st") => `(tactic| first
  | with_reducible refine' r_tAt ?_
  | ((with_reducible refine' r_fld ?h1 ?h2 ?h3); (case h1 => first | assumption | exact upd_same); (case h2 => first | walk_at "lk" | rfl))
  | with_reducible refine' r_sAt ?_
  | ((with_reducible refine' r_putU ?h1 ?h2); (case h1 => (repeat refine putF_lt ?_); decide))
  | ((with_reducible refine' r_put ?h1 ?h2 ?h3); (case h1 => first | assumption | exact upd_same); (case h2 => (repeat refine putF_lt ?_); decide))
  | with_reducible refine' r_tMt ?_
  | ((with_reducible refine' r_met ?h1 ?h2 ?h3); (case h1 => first | assumption | exact upd_same); (case h2 => first | walk_at "lk" | rfl))
  | with_reducible refine' r_tCr ?_
  | with_reducible refine' r_tCrK ?_
  | with_reducible refine' r_chain ?_)
/-! Links as data. -/
structure LinkD where
  n : Str
  c : Rat
  l : Rat
  w : Int
  d : Str
  b : Bool
structure LinkOk (L : LinkD) : Prop where
  n6 : L.n.length ≤ 6
  nm : nameB L.n = true
  sc : SmQ L.c
  sl : SmQ L.l
  c0 : 0 < L.c
  l0 : 0 < L.l
  lc : L.l ≤ L.c
  w1 : 1 ≤ L.w
  w2 : L.w ≤ 20
  di : L.d = "own" ∨ L.d = "spare" ∨ L.d = "ranks"
def LinkAt (cL : Addr) (K : PySem.W.Frag) (H : Hp) (v : V) (L : LinkD) : Prop := ∃ a dx vc vl, v = .ref a ∧ H a = some (.ins cL dx (LinkFs L.n vc vl L.w L.d L.b)) ∧ Am K H vc L.c ∧ Am K H vl L.l
theorem LinkAt.x {S : List Addr} {cL : Addr} {K : PySem.W.Frag} {H H1 : Hp} {v : V} {L : LinkD} (e : Ext S H H1) (h : LinkAt cL K H v L) (hs : ∀ b ∈ S, ∃ l, H b = some (.lst l)) : LinkAt cL K H1 v L := by
  obtain ⟨a, dx, vc, vl, rfl, h, h1, h2⟩ := h
  exact ⟨a, dx, vc, vl, rfl, e _ _ h (fun z => by obtain ⟨l, q⟩ := hs a z; rw [h] at q; cases q), h1.x e hs, h2.x e hs⟩
theorem LinkAt.x0 {cL : Addr} {K : PySem.W.Frag} {H H1 : Hp} {v : V} {L : LinkD} (e : Ext [] H H1) (h : LinkAt cL K H v L) : LinkAt cL K H1 v L := h.x e fun _ z => nomatch z
section
variable {n d : Str} {vc vl : V} {w : Int} {b : Bool}
theorem lk_Link_name : List.lookup ("name" : Str) (LinkFs n vc vl w d b) = some (V.str n) := by kernel_rfl
theorem lk_Link_capacity : List.lookup ("capacity" : Str) (LinkFs n vc vl w d b) = some vc := by kernel_rfl
theorem lk_Link_low : List.lookup ("low" : Str) (LinkFs n vc vl w d b) = some vl := by kernel_rfl
theorem lk_Link_way : List.lookup ("way" : Str) (LinkFs n vc vl w d b) = some (V.int w) := by kernel_rfl
theorem lk_Link_discipline : List.lookup ("discipline" : Str) (LinkFs n vc vl w d b) = some (V.str d) := by kernel_rfl
theorem lk_Link_strange : List.lookup ("strange" : Str) (LinkFs n vc vl w d b) = some (V.bl b) := by kernel_rfl
theorem lk_Link_is_shaky : List.lookup ("is_shaky" : Str) (LinkFs n vc vl w d b) = none := by kernel_rfl
end
local macro_rules | `(tactic| walk_at "lk") => `(tactic| first | with_reducible exact lk_Link_name | with_reducible exact lk_Link_capacity | with_reducible exact lk_Link_low | with_reducible exact lk_Link_way | with_reducible exact lk_Link_discipline | with_reducible exact lk_Link_strange | with_reducible exact lk_Link_is_shaky)
section
variable {P : Program} {w : World} {K : PySem.W.Frag} {mg : Str → Option Value} {base : Heap} {f : Addr} {fd : FuncData}
def spShaky (cL : Addr) (K : PySem.W.Frag) : Sp := fun vs H Q _ => ∃ (v : V) (L : LinkD), vs = [v] ∧ LinkAt cL K H v L ∧ Q (.bl (!decide (L.l = L.c))) H
def spLawLink (cL : Addr) (K : PySem.W.Frag) : Sp := fun vs H Q _ => ∃ (a : Addr) (vc vl : V) (L : LinkD), vs = [.ref a] ∧ SqT K H a [.str L.n, vc, vl, .int L.w, .str L.d, .bl L.b] ∧ Am K H vc L.c ∧ Am K H vl L.l ∧ LinkOk L ∧ ∀ v H', Ext [] H H' → LinkAt cL K H' v L → Q v H'
end
end Yk

set_option maxHeartbeats 8000000
namespace Yk
open PySem PySem.Spec PyProof.Rows L2

local macro_rules | `(tactic| walk_at "st") => `(tactic| first
  | with_reducible refine' r_tAt ?_
  | ((with_reducible refine' r_fld ?h1 ?h2 ?h3); (case h1 => first | assumption | exact upd_same); (case h2 => first | walk_at "lk" | rfl))
  | with_reducible refine' r_sAt ?_
  | ((with_reducible refine' r_putU ?h1 ?h2); (case h1 => (repeat refine putF_lt ?_); decide))
  | ((with_reducible refine' r_put ?h1 ?h2 ?h3); (case h1 => first | assumption | exact upd_same); (case h2 => (repeat refine putF_lt ?_); decide))
  | with_reducible refine' r_tMt ?_
  | ((with_reducible refine' r_met ?h1 ?h2 ?h3); (case h1 => first | assumption | exact upd_same); (case h2 => first | walk_at "lk" | rfl))
  | with_reducible refine' r_tCr ?_
  | with_reducible refine' r_tCrK ?_
  | with_reducible refine' r_chain ?_)
/-! Flows: what their checks say of right values. -/
theorem cmp_le {p q : Rat} (h : p ≤ q) : decide (cmpQ p q ≤ 0) = true := by
  refine decide_eq_true ?_
  unfold cmpQ
  split
  · decide
  · split
    · grind
    · decide
theorem cmp_ngt {p q : Rat} (h : p ≤ q) : decide (cmpQ p q > 0) = false := by
  refine decide_eq_false ?_
  have := of_decide_eq_true (cmp_le h)
  omega
theorem r_isq {K : PySem.W.Frag} {H : Hp} {Q : VK} {a p : Addr} {xs : List V} (hp : H p = some (.tup [.ty "list", .ty "tuple"])) (h : SqQ K H a xs) (k : Q (.bl true) H) : rIsiT K [.ref a, .ref p] H Q :=
  h.elim (fun h => r_isiT hp (tyL h) rfl k) (fun h => r_isiT hp (tyT h) rfl k)
structure BufQ (q : Rat) : Prop where
  n0 : 0 ≤ q
  le : q ≤ 1000000
  sz : Sz 4000 q
section
variable {P : Program} {w : World} {K : PySem.W.Frag} {mg : Str → Option Value} {base : Heap} {f : Addr} {fd : FuncData}
def spSize (K : PySem.W.Frag) : Sp := fun vs H Q _ => ∃ (v : V) (q : Rat), vs = [v] ∧ Am K H v q ∧ BufQ q ∧ Q (.bl true) H
abbrev s_is_size : Stmt := top 45
theorem c_is_size : FnScope ["value"] ["value"] (defScope s_is_size) := ⟨rfl, rfl, rfl, by decide +kernel, rfl, by decide +kernel, by decide +kernel⟩
theorem f_is_size (F : FunD K "_is_size" "_is_size" (defArgs s_is_size) (defBody s_is_size) (defScope s_is_size) [] [] f fd) (hm : mg "_is_size" = some (.ref f)) (TB : ∃ z, mg "LARGEST_BUFFER" = some (.ref z) ∧ ∀ H, SqT K H z [.int 1000000, .int 1]) (Fis_amount : Fn P w K mg base 2 "is_amount" (spIsAm K)) (Fcompare : Fn P w K mg base 1 "compare" (spCompare K)) : Fn P w K mg base 3 "_is_size" (spSize K) := by
  refine fn_def F hm c_is_size (fun vs H Q E h => ?_) (fun _ _ _ _ _ _ us hl => match us, hl with | [_], _ => rfl) (fun cdv A outer s H vs Q E hr h => ?_)
  · obtain ⟨v, q, rfl, _⟩ := h
    rfl
  · obtain ⟨v, q, rfl, hv, hq, k⟩ := h
    have nd := c_is_size.nd
    obtain ⟨tb, mtb, htb⟩ := TB
    refine ⟨_, (pss_one (ps_ret (pe_and (pe_fn Fis_amount (hr.mono (by decide)) (pa_cons (pv 0) pa_nil)) (pe_one (pe_cmpR op_le (pe_fn Fcompare (hr.mono (by decide)) (pa_cons (pv 0) (pa_cons (pe_glob (v := .ref tb) rfl mtb rfl) pa_nil))) pe_int (nomark _)))))), ?_⟩
    show (_ : TS) _ [some _] _
    try dsimp only [cxOf, Cx.nox]
    walk_at "run"
    refine ⟨v, q, rfl, hv, hq.n0, ?_⟩
    walk_at "run"
    refine ⟨v, .ref tb, q, 1000000, rfl, hv, ⟨tb, rfl, htb _⟩, hq.sz, ⟨by decide +kernel, by decide +kernel⟩, ?_⟩
    walk_at "run"
    rw [cmp_le hq.le]
    exact k
def spBufs (K : PySem.W.Frag) : Sp := fun vs H Q _ => ∃ (a : Addr) (xs : List V) (qs : List Rat) (n : Int), vs = [.ref a, .int n] ∧ SqQ K H a xs ∧ Ams K H xs qs ∧ (∀ q ∈ qs, BufQ q) ∧ (xs.length : Int) = n ∧ n ≤ 5 ∧ ∀ H', Ext [] H H' → Q (.bl true) H'
abbrev s_are_buffers : Stmt := top 44
theorem c_are_buffers : FnScope ["value", "many", "size"] ["value", "many"] (defScope s_are_buffers) := ⟨rfl, rfl, rfl, by decide +kernel, rfl, by decide +kernel, by decide +kernel⟩
theorem f_are_buffers (F : FunD K "_are_buffers" "_are_buffers" (defArgs s_are_buffers) (defBody s_are_buffers) (defScope s_are_buffers) [] [] f fd) (hm : mg "_are_buffers" = some (.ref f)) (T : Bt mg) (F_is_size : Fn P w K mg base 3 "_is_size" (spSize K)) : Fn P w K mg base 4 "_are_buffers" (spBufs K) := by
  refine fn_def F hm c_are_buffers (fun vs H Q E h => ?_) (fun _ _ _ _ _ _ us hl => match us, hl with | [_, _], _ => rfl) (fun cdv A outer s H vs Q E hr h => ?_)
  · obtain ⟨a, xs, qs, n, rfl, _⟩ := h
    rfl
  · obtain ⟨a, xs, qs, n, rfl, ha, hq, hb, hn, h5, k⟩ := h
    have nd := c_are_buffers.nd
    refine ⟨_, (pss_cons (ps_if (PW.pt (pw_or (pt_not (pt_val (pe_callB call_isiT (by rfl) T.isinstance (by decide +kernel) (pa_cons (pv 0) (pa_cons (pe_tup (pa_cons (pe_bltn (v := .ty "list") (by rfl) T.list (by decide +kernel) rfl) (pa_cons (pe_bltn (v := .ty "tuple") (by rfl) T.tuple (by decide +kernel) rfl) pa_nil))) pa_nil))))) (pw_or1 (pt_cmpR op_ne (pe_callB cr_len (by rfl) T.len (by decide +kernel) (pa_cons (pv 0) pa_nil)) (pv 1) (nomark _)))))
        (pss_one (ps_ret pe_bl))
        pss_nil)
      (pss_one (ps_ret (pe_callB (cr_all rfl) (by rfl) T.all (by decide +kernel) (pa_cons (pe_lc (own := [("size", 2)]) (g := gName 2) rfl nd (pi_seq (pv 0)) (blkOk_by (N := ["value", "many", "size"]) (sc := defScope s_are_buffers) (by decide +kernel)) (fun _ _ _ _ _ => pg_name (i := 2) nd rfl (Or.inl rfl)) (fun _ _ _ _ _ => pts_nil) (fun _ _ _ _ _ => (pe_fn F_is_size (hr.mono (by decide)) (pa_cons (pv 2) pa_nil)))) pa_nil))))), ?_⟩
    show (_ : TS) _ [some _, some _, none] _
    try dsimp only [cxOf, Cx.nox]
    walk_at "run"
    rename_i np hnp
    have e0 : Ext [] H (upd H np (.tup [.ty "list", .ty "tuple"])) := Ext.refl.new hnp
    refine r_isq upd_same (sqq0 e0 ha) ?_
    walk_at "run"
    refine r_len (sqq0 e0 ha) ?_
    walk_at "run"
    rw [hn, decide_eq_true rfl]
    walk_at "run"
    refine r_lcQ rfl ha (kp0 e0) fun D hD => ⟨fun i H1 => ∃ m : Nat, m = i ∧ H1 D = some (.lst ((List.replicate m true).map V.bl)) ∧ Ext [] H H1, ?_, ?_, ?_, ?_⟩
    · exact ⟨0, rfl, upd_same, e0.new hD⟩
    · rintro j H2 ⟨m, _, _, e⟩
      exact kp0 e
    · rintro j y H1 hy ⟨m, rfl, hacc, e1⟩
      obtain ⟨q, hqi, hqv⟩ := (hq.x0 e1).at_ hy
      walk_at "go"
      refine ⟨rfl, ?_⟩
      walk_at "go"
      refine ⟨y, q, rfl, hqv, hb q (List.mem_of_getElem? hqi), ?_⟩
      have hj := (List.getElem?_eq_some_iff.mp hy).1
      refine ⟨_, hacc, Nat.lt_of_le_of_lt (by rw [List.length_map, List.length_replicate]; omega : _ ≤ 4000) (by decide), m + 1, rfl, ?_, e1.own ?_⟩
      · rw [upd_same, List.replicate_succ', List.map_append]
        rfl
      · exact e0.free hD
    · rintro H1 ⟨m, rfl, hacc, e1⟩
      walk_at "go"
      refine r_all (bs := List.replicate xs.length true) (.inl (.inl hacc)) ?_
      have e : (List.replicate xs.length true).all id = true := by simp
      rw [e]
      exact k _ e1
inductive SizeD
  | no
  | win (q : Rat)
  | tries (n : Int)
def SizeIs (K : PySem.W.Frag) (H : Hp) (v : V) : SizeD → Prop
  | .no => v = .non
  | .win q => Am K H v q ∧ BufQ q
  | .tries n => v = .int n ∧ 1 ≤ n ∧ n ≤ 12
def kindOk (d : Str) : SizeD → Prop
  | .no => d = "level" ∨ d = "eager"
  | .win _ => d = "window"
  | .tries _ => d = "probe"
def spKind (K : PySem.W.Frag) : Sp := fun vs H Q _ => ∃ (d : Str) (v : V) (z : SizeD), vs = [.str d, v] ∧ SizeIs K H v z ∧ kindOk d z ∧ Q (.bl true) H
abbrev s_fits_kind : Stmt := top 47
theorem c_fits_kind : FnScope ["kind", "size"] ["kind", "size"] (defScope s_fits_kind) := ⟨rfl, rfl, rfl, by decide +kernel, rfl, by decide +kernel, by decide +kernel⟩
theorem f_fits_kind (F : FunD K "_fits_kind" "_fits_kind" (defArgs s_fits_kind) (defBody s_fits_kind) (defScope s_fits_kind) [] [] f fd) (hm : mg "_fits_kind" = some (.ref f)) (MT : ∃ t, mg "MOST_TRIES" = some (.int 12 t)) (F_is_size : Fn P w K mg base 3 "_is_size" (spSize K)) (Fis_number_within : Fn P w K mg base 2 "is_number_within" spWithin) : Fn P w K mg base 4 "_fits_kind" (spKind K) := by
  refine fn_def F hm c_fits_kind (fun vs H Q E h => ?_) (fun _ _ _ _ _ _ us hl => match us, hl with | [_, _], _ => rfl) (fun cdv A outer s H vs Q E hr h => ?_)
  · obtain ⟨d, v, z, rfl, _⟩ := h
    rfl
  · obtain ⟨d, v, z, rfl, hz, hd, k⟩ := h
    have nd := c_fits_kind.nd
    obtain ⟨tt, mmt⟩ := MT
    refine ⟨_, (pss_cons (ps_if (pt_cmpR op_eq (pv 0) pe_str (nomark _))
        (pss_one (ps_ret (pe_fn F_is_size (hr.mono (by decide)) (pa_cons (pv 1) pa_nil))))
        pss_nil)
      (pss_cons (ps_if (pt_cmpR op_eq (pv 0) pe_str (nomark _))
        (pss_one (ps_ret (pe_fn Fis_number_within (hr.mono (by decide)) (pa_cons (pv 1) (pa_cons pe_int (pa_cons (pe_glob (v := .int 12) rfl mmt ⟨_, rfl⟩) pa_nil))))))
        pss_nil)
      (pss_one (ps_ret (pe_cmpR op_isN (pv 1) pe_non (nomark _)))))), ?_⟩
    show (_ : TS) _ [some _, some _] _
    try dsimp only [cxOf, Cx.nox]
    walk_at "run"
    cases z with
    | no =>
      have hz : v = .non := hz
      subst hz
      rcases hd with rfl | rfl
      all_goals
        refine r_false (decide_eq_false (by decide +kernel)) ?_
        walk_at "run"
        exact k
    | win q =>
      have hd : d = "window" := hd
      subst hd
      refine r_true (decide_eq_true rfl) ?_
      walk_at "run"
      exact ⟨v, q, rfl, hz.1, hz.2, k⟩
    | tries n =>
      have hd : d = "probe" := hd
      subst hd
      obtain ⟨rfl, h1, h2⟩ := hz
      refine r_false (decide_eq_false (by decide +kernel)) ?_
      walk_at "run"
      refine ⟨n, 1, 12, rfl, ?_⟩
      rw [decide_eq_true h1, decide_eq_true h2]
      exact k
def spChKind (K : PySem.W.Frag) : Sp := fun vs H Q _ => ∃ (d : Str) (v : V) (z : SizeD), vs = [.str d, v] ∧ SizeIs K H v z ∧ kindOk d z ∧ Q .non H
abbrev s_check_kind : Stmt := top 46
theorem c_check_kind : FnScope ["kind", "size"] ["kind", "size"] (defScope s_check_kind) := ⟨rfl, rfl, rfl, by decide +kernel, rfl, by decide +kernel, by decide +kernel⟩
theorem f_check_kind (F : FunD K "_check_kind" "_check_kind" (defArgs s_check_kind) (defBody s_check_kind) (defScope s_check_kind) [] [] f fd) (hm : mg "_check_kind" = some (.ref f)) (TK : ∃ z, mg "KINDS" = some (.ref z) ∧ ∀ H, SqT K H z [.str "level", .str "eager", .str "window", .str "probe"]) (F_fits_kind : Fn P w K mg base 4 "_fits_kind" (spKind K)) : Fn P w K mg base 5 "_check_kind" (spChKind K) := by
  refine fn_def F hm c_check_kind (fun vs H Q E h => ?_) (fun _ _ _ _ _ _ us hl => match us, hl with | [_, _], _ => rfl) (fun cdv A outer s H vs Q E hr h => ?_)
  · obtain ⟨d, v, z, rfl, _⟩ := h
    rfl
  · obtain ⟨d, v, z, rfl, hz, hd, k⟩ := h
    have nd := c_check_kind.nd
    obtain ⟨tk, mtk, htk⟩ := TK
    refine ⟨_, (pss_cons (ps_if (pt_cmpR op_notIn_seq (pv 0) (pe_glob (v := .ref tk) rfl mtk rfl) (by rfl))
        (pss_one ps_never)
        pss_nil)
      (pss_one (ps_if (pt_not (pt_val (pe_fn F_fits_kind (hr.mono (by decide)) (pa_cons (pv 0) (pa_cons (pv 1) pa_nil)))))
        (pss_one ps_never)
        pss_nil))), ?_⟩
    show (_ : TS) _ [some _, some _] _
    try dsimp only [cxOf, Cx.nox]
    walk_at "run"
    refine r_in (.inr (htk _)) rfl rfl ?_
    have hin : inV (.str d) [.str "level", .str "eager", .str "window", .str "probe"] = true := by
      cases z with
      | no => rcases hd with rfl | rfl <;> decide +kernel
      | win q => have hd : d = "window" := hd; subst hd; decide +kernel
      | tries n => have hd : d = "probe" := hd; subst hd; decide +kernel
    rw [hin]
    walk_at "run"
    refine ⟨d, v, z, rfl, hz, hd, ?_⟩
    walk_at "run"
    exact k
def spChProm (K : PySem.W.Frag) : Sp := fun vs H Q _ => ∃ (n : Int) (v u : V) (p q : Rat), vs = [.int n, v, u] ∧ 1 ≤ n ∧ n ≤ 12 ∧ Am K H v p ∧ Am K H u q ∧ SmQ p ∧ SmQ q ∧ p ≤ q ∧ Q .non H
abbrev s_check_promise : Stmt := top 48
theorem c_check_promise : FnScope ["weight", "least", "cap"] ["weight", "least", "cap"] (defScope s_check_promise) := ⟨rfl, rfl, rfl, by decide +kernel, rfl, by decide +kernel, by decide +kernel⟩
theorem f_check_promise (F : FunD K "_check_promise" "_check_promise" (defArgs s_check_promise) (defBody s_check_promise) (defScope s_check_promise) [] [] f fd) (hm : mg "_check_promise" = some (.ref f)) (MW : ∃ t, mg "MOST_WEIGHT" = some (.int 12 t)) (Fis_number_within : Fn P w K mg base 2 "is_number_within" spWithin) (Fis_small : Fn P w K mg base 3 "is_small" (spSmall K)) (Fcompare : Fn P w K mg base 1 "compare" (spCompare K)) : Fn P w K mg base 4 "_check_promise" (spChProm K) := by
  refine fn_def F hm c_check_promise (fun vs H Q E h => ?_) (fun _ _ _ _ _ _ us hl => match us, hl with | [_, _, _], _ => rfl) (fun cdv A outer s H vs Q E hr h => ?_)
  · obtain ⟨n, v, u, p, q, rfl, _⟩ := h
    rfl
  · obtain ⟨n, v, u, p, q, rfl, h1, h2, hv, hu, sp, sq, hpq, k⟩ := h
    have nd := c_check_promise.nd
    obtain ⟨tw, mmw⟩ := MW
    refine ⟨_, (pss_cons (ps_if (pt_not (pt_val (pe_fn Fis_number_within (hr.mono (by decide)) (pa_cons (pv 0) (pa_cons pe_int (pa_cons (pe_glob (v := .int 12) rfl mmw ⟨_, rfl⟩) pa_nil))))))
        (pss_one ps_never)
        pss_nil)
      (pss_cons (ps_if (pt_not (pt_val (pe_fn Fis_small (hr.mono (by decide)) (pa_cons (pv 1) pa_nil))))
        (pss_one ps_never)
        pss_nil)
      (pss_one (ps_if (PW.pt (pw_or (pt_not (pt_val (pe_fn Fis_small (hr.mono (by decide)) (pa_cons (pv 2) pa_nil)))) (pw_or1 (pt_cmpR op_gt (pe_fn Fcompare (hr.mono (by decide)) (pa_cons (pv 1) (pa_cons (pv 2) pa_nil))) pe_int (nomark _)))))
        (pss_one ps_never)
        pss_nil)))), ?_⟩
    show (_ : TS) _ [some _, some _, some _] _
    try dsimp only [cxOf, Cx.nox]
    walk_at "run"
    refine ⟨n, 1, 12, rfl, ?_⟩
    rw [decide_eq_true h1, decide_eq_true h2]
    walk_at "run"
    refine ⟨v, p, rfl, hv, sp, ?_⟩
    walk_at "run"
    refine ⟨u, q, rfl, hu, sq, ?_⟩
    walk_at "run"
    refine ⟨v, u, p, q, rfl, hv, hu, sp.sz (by decide), sq.sz (by decide), ?_⟩
    walk_at "run"
    refine r_false (cmp_ngt hpq) ?_
    walk_at "run"
    exact k
end
end Yk

set_option maxHeartbeats 8000000
namespace Yk
open PySem PySem.Spec PyProof.Rows L2

local macro_rules | `(tactic| walk_at "st") => `(tactic| first
  | with_reducible refine' r_tAt ?_
  | ((with_reducible refine' r_fld ?h1 ?h2 ?h3); (case h1 => first | assumption | exact upd_same); (case h2 => first | walk_at "lk" | rfl))
  | with_reducible refine' r_sAt ?_
  | ((with_reducible refine' r_putU ?h1 ?h2); (case h1 => (repeat refine putF_lt ?_); decide))
  | ((with_reducible refine' r_put ?h1 ?h2 ?h3); (case h1 => first | assumption | exact upd_same); (case h2 => (repeat refine putF_lt ?_); decide))
  | with_reducible refine' r_tMt ?_
  | ((with_reducible refine' r_met ?h1 ?h2 ?h3); (case h1 => first | assumption | exact upd_same); (case h2 => first | walk_at "lk" | rfl))
  | with_reducible refine' r_tCr ?_
  | with_reducible refine' r_tCrK ?_
  | with_reducible refine' r_chain ?_)
/-! Manners. -/
structure PairOk (p : Rat × Rat) : Prop where
  n0 : 0 ≤ p.1
  le : p.1 ≤ p.2
  z1 : Sz 4000 p.1
  z2 : Sz 4000 p.2
section
variable {P : Program} {w : World} {K : PySem.W.Frag} {mg : Str → Option Value} {base : Heap} {f : Addr} {fd : FuncData}
def spIsManW (K : PySem.W.Frag) : Sp := fun vs H Q _ => ∃ (v : V) (man : Option (Rat × Rat)), vs = [v] ∧ ManIs K H v man ∧ (∀ p, man = some p → PairOk p) ∧ Q (.bl true) H
abbrev s_is_manner : Stmt := top 25
theorem c_is_manner : FnScope ["value"] ["value"] (defScope s_is_manner) := ⟨rfl, rfl, rfl, by decide +kernel, rfl, by decide +kernel, by decide +kernel⟩
theorem f_is_manner (F : FunD K "is_manner" "is_manner" (defArgs s_is_manner) (defBody s_is_manner) (defScope s_is_manner) [] [] f fd) (hm : mg "is_manner" = some (.ref f)) (T : Bt mg) (Fis_amount : Fn P w K mg base 2 "is_amount" (spIsAm K)) (Fcompare : Fn P w K mg base 1 "compare" (spCompare K)) : Fn P w K mg base 3 "is_manner" (spIsManW K) := by
  refine fn_def F hm c_is_manner (fun vs H Q E h => ?_) (fun _ _ _ _ _ _ us hl => match us, hl with | [_], _ => rfl) (fun cdv A outer s H vs Q E hr h => ?_)
  · obtain ⟨v, man, rfl, _⟩ := h
    rfl
  · obtain ⟨v, man, rfl, hv, ok, k⟩ := h
    have nd := c_is_manner.nd
    refine ⟨_, (pss_cons (ps_if (pt_not (pt_val (pe_callB call_isi (by rfl) T.isinstance (by decide +kernel) (pa_cons (pv 0) (pa_cons (pe_bltn (v := .ty "tuple") (by rfl) T.tuple (by decide +kernel) rfl) pa_nil)))))
        (pss_one (ps_ret pe_bl))
        pss_nil)
      (pss_cons (ps_if (pt_cmpR op_eq (pe_callB cr_len (by rfl) T.len (by decide +kernel) (pa_cons (pv 0) pa_nil)) pe_int (nomark _))
        (pss_one (ps_ret pe_bl))
        pss_nil)
      (pss_cons (ps_if (PW.pt (pw_or (pt_cmpR op_ne (pe_callB cr_len (by rfl) T.len (by decide +kernel) (pa_cons (pv 0) pa_nil)) pe_int (nomark _)) (pw_or (pt_not (pt_val (pe_fn Fis_amount (hr.mono (by decide)) (pa_cons (pe_ix ix_tup (pv 0) pe_int (fun _ _ => rfl)) pa_nil)))) (pw_or1 (pt_not (pt_val (pe_fn Fis_amount (hr.mono (by decide)) (pa_cons (pe_ix ix_tup (pv 0) pe_int (fun _ _ => rfl)) pa_nil))))))))
        (pss_one (ps_ret pe_bl))
        pss_nil)
      (pss_one (ps_ret (pe_cmpR op_le (pe_fn Fcompare (hr.mono (by decide)) (pa_cons (pe_ix ix_tup (pv 0) pe_int (fun _ _ => rfl)) (pa_cons (pe_ix ix_tup (pv 0) pe_int (fun _ _ => rfl)) pa_nil))) pe_int (nomark _))))))), ?_⟩
    show (_ : TS) _ [some _] _
    try dsimp only [cxOf, Cx.nox]
    cases man with
    | none =>
      obtain ⟨a, rfl, h⟩ := hv
      walk_at "run"
      exact k
    | some p =>
      obtain ⟨a, v1, v2, rfl, h, a1, a2⟩ := hv
      have o := ok p rfl
      walk_at "run"
      refine ⟨v1, p.1, rfl, a1, o.n0, ?_⟩
      walk_at "run"
      refine ⟨v2, p.2, rfl, a2, by have := o.n0; have := o.le; grind, ?_⟩
      walk_at "run"
      refine ⟨v1, v2, p.1, p.2, rfl, a1, a2, o.z1, o.z2, ?_⟩
      walk_at "run"
      rw [cmp_le o.le]
      exact k
def spManIn (K : PySem.W.Frag) : Sp := fun vs H Q _ => ∃ (v u y : V) (man : Option (Rat × Rat)) (l c : Rat), vs = [v, u, y] ∧ ManIs K H v man ∧ Am K H u l ∧ Am K H y c ∧ Sz 4000 l ∧ Sz 4000 c ∧ (∀ p, man = some p → PairOk p ∧ p.1 ≤ l ∧ p.2 ≤ c) ∧ ∀ H', Ext [] H H' → Q (.bl true) H'
abbrev s_is_manner_within : Stmt := top 49
theorem c_is_manner_within : FnScope ["value", "least", "cap"] ["value", "least", "cap"] (defScope s_is_manner_within) := ⟨rfl, rfl, rfl, by decide +kernel, rfl, by decide +kernel, by decide +kernel⟩
theorem f_is_manner_within (F : FunD K "_is_manner_within" "_is_manner_within" (defArgs s_is_manner_within) (defBody s_is_manner_within) (defScope s_is_manner_within) [] [] f fd) (hm : mg "_is_manner_within" = some (.ref f)) (Fis_manner : Fn P w K mg base 3 "is_manner" (spIsManW K)) (Fcompare : Fn P w K mg base 1 "compare" (spCompare K)) : Fn P w K mg base 4 "_is_manner_within" (spManIn K) := by
  refine fn_def F hm c_is_manner_within (fun vs H Q E h => ?_) (fun _ _ _ _ _ _ us hl => match us, hl with | [_, _, _], _ => rfl) (fun cdv A outer s H vs Q E hr h => ?_)
  · obtain ⟨v, u, y, man, l, c, rfl, _⟩ := h
    rfl
  · obtain ⟨v, u, y, man, l, c, rfl, hv, hu, hy, zl, zc, ok, k⟩ := h
    have nd := c_is_manner_within.nd
    refine ⟨_, (pss_cons (ps_if (pt_not (pt_val (pe_fn Fis_manner (hr.mono (by decide)) (pa_cons (pv 0) pa_nil))))
        (pss_one (ps_ret pe_bl))
        pss_nil)
      (pss_one (ps_ret (pe_or (pe_cmpR (op_eqD hr.units) (pv 0) (pe_tup pa_nil) (nomark _)) (pe_one (pe_and (pe_cmpR op_le (pe_fn Fcompare (hr.mono (by decide)) (pa_cons (pe_ix ix_tup (pv 0) pe_int (fun _ _ => rfl)) (pa_cons (pv 1) pa_nil))) pe_int (nomark _)) (pe_one (pe_cmpR op_le (pe_fn Fcompare (hr.mono (by decide)) (pa_cons (pe_ix ix_tup (pv 0) pe_int (fun _ _ => rfl)) (pa_cons (pv 2) pa_nil))) pe_int (nomark _))))))))), ?_⟩
    show (_ : TS) _ [some _, some _, some _] _
    try dsimp only [cxOf, Cx.nox]
    walk_at "run"
    refine ⟨v, man, rfl, hv, fun p e => (ok p e).1, ?_⟩
    walk_at "run"
    rename_i np hnp
    have e0 : Ext [] H (upd H np (.tup [])) := Ext.refl.new hnp
    refine eq_man (hv.x0 e0) tupS ?_
    walk_at "run"
    cases man with
    | none =>
      refine r_true rfl ?_
      exact k _ e0
    | some p =>
      obtain ⟨o, ol, oc⟩ := ok p rfl
      obtain ⟨a, v1, v2, rfl, h, a1, a2⟩ := hv.x0 e0
      refine r_false rfl ?_
      walk_at "run"
      refine ⟨v1, u, p.1, l, rfl, a1, hu.x0 e0, o.z1, zl, ?_⟩
      walk_at "run"
      refine r_true (cmp_le ol) ?_
      walk_at "run"
      refine ⟨v2, y, p.2, c, rfl, a2, hy.x0 e0, o.z2, zc, ?_⟩
      walk_at "run"
      rw [cmp_le oc]
      exact k _ e0
end
end Yk

set_option maxHeartbeats 8000000
namespace Yk
open PySem PySem.Spec PyProof.Rows L2

local macro_rules | `(tactic| walk_at "st") => `(tactic| first
  | with_reducible refine' r_tAt ?_
  | ((with_reducible refine' r_fld ?h1 ?h2 ?h3); (case h1 => first | assumption | exact upd_same); (case h2 => first | walk_at "lk" | rfl))
  | with_reducible refine' r_sAt ?_
  | ((with_reducible refine' r_putU ?h1 ?h2); (case h1 => (repeat refine putF_lt ?_); decide))
  | ((with_reducible refine' r_put ?h1 ?h2 ?h3); (case h1 => first | assumption | exact upd_same); (case h2 => (repeat refine putF_lt ?_); decide))
  | with_reducible refine' r_tMt ?_
  | ((with_reducible refine' r_met ?h1 ?h2 ?h3); (case h1 => first | assumption | exact upd_same); (case h2 => first | walk_at "lk" | rfl))
  | with_reducible refine' r_tCr ?_
  | with_reducible refine' r_tCrK ?_
  | with_reducible refine' r_chain ?_)
/-! Routes. -/
theorem tupO {K : PySem.W.Frag} {H H1 : Hp} {C a dx t : Addr} {fs : List (Str × V)} {xs : List V} (e : Ext [a] H H1) (ha : H a = some (.ins C dx fs)) (h : SqT K H t xs) : SqT K H1 t xs := by
  have ne : ∀ o, H t = some o → (∀ C dx fs, o ≠ .ins C dx fs) → t ∉ [a] := fun o ho hn z => by
    rw [List.mem_singleton.mp z, ha] at ho
    exact hn _ _ _ (Option.some.inj ho).symm
  rcases h with (h | ⟨o, h⟩) | h
  · exact .inl (.inl (e _ _ h (ne _ h fun _ _ _ z => nomatch z)))
  · exact .inl (.inr ⟨o, e _ _ h (ne _ h fun _ _ _ z => nomatch z)⟩)
  · exact .inr h
theorem Am.o {K : PySem.W.Frag} {H H1 : Hp} {C a dx : Addr} {fs : List (Str × V)} {v : V} {q : Rat} (e : Ext [a] H H1) (ha : H a = some (.ins C dx fs)) (h : Am K H v q) : Am K H1 v q := by
  obtain ⟨t, rfl, h⟩ := h
  exact ⟨t, rfl, tupO e ha h⟩
structure RouteOk (rs : List Str) : Prop where
  l1 : 1 ≤ rs.length
  l5 : rs.length ≤ 5
  nd : rs.Nodup
  nm : ∀ s ∈ rs, s.length ≤ 6 ∧ nameB s = true
theorem r_lenSetQ {K : PySem.W.Frag} {ta : TE} {σ : L2.St} {H : Hp} {Q : VK} (h : ta σ H fun x H1 => ∃ (l : Addr) (xs : List Str), x = .ref l ∧ SqQ K H1 l (xs.map V.str) ∧ xs.Nodup ∧ xs.length ≤ 4000 ∧ Q (.int xs.length) H1) : tLenSetQ K ta σ H Q := h
section
variable {P : Program} {w : World} {K : PySem.W.Frag} {mg : Str → Option Value} {base : Heap} {f : Addr} {fd : FuncData}
def spRoute (K : PySem.W.Frag) : Sp := fun vs H Q _ => ∃ (a : Addr) (rs : List Str), vs = [.ref a] ∧ SqQ K H a (rs.map V.str) ∧ RouteOk rs ∧ ∀ H', Ext [] H H' → Q (.bl true) H'
abbrev s_is_route : Stmt := top 43
theorem c_is_route : FnScope ["value", "link"] ["value"] (defScope s_is_route) := ⟨rfl, rfl, rfl, by decide +kernel, rfl, by decide +kernel, by decide +kernel⟩
theorem f_is_route (F : FunD K "_is_route" "_is_route" (defArgs s_is_route) (defBody s_is_route) (defScope s_is_route) [] [] f fd) (hm : mg "_is_route" = some (.ref f)) (T : Bt mg) (Tset : mg "set" = none) (LR : ∃ t, mg "LONGEST_ROUTE" = some (.int 5 t)) (Fis_name : Fn P w K mg base 1 "is_name" spIsName) : Fn P w K mg base 2 "_is_route" (spRoute K) := by
  refine fn_def F hm c_is_route (fun vs H Q E h => ?_) (fun _ _ _ _ _ _ us hl => match us, hl with | [_], _ => rfl) (fun cdv A outer s H vs Q E hr h => ?_)
  · obtain ⟨a, rs, rfl, _⟩ := h
    rfl
  · obtain ⟨a, rs, rfl, ha, ok, k⟩ := h
    have nd := c_is_route.nd
    obtain ⟨tr, mlr⟩ := LR
    refine ⟨_, (pss_cons (ps_if (PW.pt (pw_or (pt_not (pt_val (pe_callB call_isiT (by rfl) T.isinstance (by decide +kernel) (pa_cons (pv 0) (pa_cons (pe_tup (pa_cons (pe_bltn (v := .ty "list") (by rfl) T.list (by decide +kernel) rfl) (pa_cons (pe_bltn (v := .ty "tuple") (by rfl) T.tuple (by decide +kernel) rfl) pa_nil))) pa_nil))))) (pw_or1 (pt_not (pt_chain op_le op_le pe_int (pe_callB cr_len (by rfl) T.len (by decide +kernel) (pa_cons (pv 0) pa_nil)) (pe_glob (v := .int 5) rfl mlr ⟨_, rfl⟩))))))
        (pss_one (ps_ret pe_bl))
        pss_nil)
      (pss_one (ps_ret (pe_and (pe_callB (cr_all rfl) (by rfl) T.all (by decide +kernel) (pa_cons (pe_lc (own := [("link", 1)]) (g := gName 1) rfl nd (pi_seq (pv 0)) (blkOk_by (N := ["value", "link"]) (sc := defScope s_is_route) (by decide +kernel)) (fun _ _ _ _ _ => pg_name (i := 1) nd rfl (Or.inl rfl)) (fun _ _ _ _ _ => pts_nil) (fun _ _ _ _ _ => (pe_fn Fis_name (hr.mono (by decide)) (pa_cons (pv 1) pa_nil)))) pa_nil)) (pe_one (pe_cmpR op_eq (pe_lenSetQ rfl T.len Tset (pv 0)) (pe_callB cr_len (by rfl) T.len (by decide +kernel) (pa_cons (pv 0) pa_nil)) (nomark _))))))), ?_⟩
    show (_ : TS) _ [some _, none] _
    try dsimp only [cxOf, Cx.nox]
    walk_at "run"
    rename_i np hnp
    have e0 : Ext [] H (upd H np (.tup [.ty "list", .ty "tuple"])) := Ext.refl.new hnp
    have hl1 := ok.l1
    have hl5 := ok.l5
    refine r_isq upd_same (sqq0 e0 ha) ?_
    walk_at "run"
    refine r_len (sqq0 e0 ha) ?_
    walk_at "run"
    refine r_true (decide_eq_true (by rw [List.length_map]; omega)) ?_
    walk_at "run"
    rw [decide_eq_true (by rw [List.length_map]; omega)]
    walk_at "run"
    refine r_lcQ rfl ha (kp0 e0) fun D hD => ⟨fun i H1 => ∃ m : Nat, m = i ∧ H1 D = some (.lst ((List.replicate m true).map V.bl)) ∧ Ext [] H H1, ?_, ?_, ?_, ?_⟩
    · exact ⟨0, rfl, upd_same, e0.new hD⟩
    · rintro j H2 ⟨m, _, _, e⟩
      exact kp0 e
    · rintro j y H1 hy ⟨m, rfl, hacc, e1⟩
      rw [List.getElem?_map] at hy
      obtain ⟨z, hz, rfl⟩ := Option.map_eq_some_iff.mp hy
      obtain ⟨z1, z2⟩ := ok.nm z (List.mem_of_getElem? hz)
      have hj := (List.getElem?_eq_some_iff.mp hz).1
      walk_at "go"
      refine ⟨rfl, ?_⟩
      walk_at "go"
      refine ⟨z, rfl, z1, ?_⟩
      rw [z2]
      refine ⟨_, hacc, Nat.lt_of_le_of_lt (by rw [List.length_map, List.length_replicate]; omega : _ ≤ 4000) (by decide), m + 1, rfl, ?_, e1.own ?_⟩
      · rw [upd_same, List.replicate_succ', List.map_append]
        rfl
      · exact e0.free hD
    · rintro H1 ⟨m, rfl, hacc, e1⟩
      walk_at "go"
      refine r_all (bs := List.replicate (rs.map V.str).length true) (.inl (.inl hacc)) ?_
      rw [show (List.replicate (rs.map V.str).length true).all id = true by simp]
      walk_at "run"
      refine r_lenSetQ ?_
      walk_at "run"
      refine ⟨a, rs, rfl, sqq0 e1 ha, ok.nd, by omega, ?_⟩
      walk_at "run"
      refine r_len (sqq0 e1 ha) ?_
      walk_at "run"
      rw [List.length_map, decide_eq_true rfl]
      exact k _ e1
def spChPlace (K : PySem.W.Frag) : Sp := fun vs H Q _ => ∃ (n : Str) (a b : Addr) (rs : List Str) (xs : List V) (qs : List Rat), vs = [.str n, .ref a, .ref b] ∧ n.length ≤ 6 ∧ nameB n = true ∧ SqQ K H a (rs.map V.str) ∧ RouteOk rs ∧ SqQ K H b xs ∧ Ams K H xs qs ∧ (∀ q ∈ qs, BufQ q) ∧ qs.length = rs.length ∧ ∀ H', Ext [] H H' → Q .non H'
abbrev s_check_place : Stmt := top 42
theorem c_check_place : FnScope ["name", "route", "buffers"] ["name", "route", "buffers"] (defScope s_check_place) := ⟨rfl, rfl, rfl, by decide +kernel, rfl, by decide +kernel, by decide +kernel⟩
theorem f_check_place (F : FunD K "_check_place" "_check_place" (defArgs s_check_place) (defBody s_check_place) (defScope s_check_place) [] [] f fd) (hm : mg "_check_place" = some (.ref f)) (T : Bt mg) (Fis_name : Fn P w K mg base 1 "is_name" spIsName) (F_is_route : Fn P w K mg base 2 "_is_route" (spRoute K)) (F_are_buffers : Fn P w K mg base 4 "_are_buffers" (spBufs K)) : Fn P w K mg base 5 "_check_place" (spChPlace K) := by
  refine fn_def F hm c_check_place (fun vs H Q E h => ?_) (fun _ _ _ _ _ _ us hl => match us, hl with | [_, _, _], _ => rfl) (fun cdv A outer s H vs Q E hr h => ?_)
  · obtain ⟨n, a, b, rs, xs, qs, rfl, _⟩ := h
    rfl
  · obtain ⟨n, a, b, rs, xs, qs, rfl, n6, nm, ha, ok, hb, hq, hqs, hl, k⟩ := h
    have nd := c_check_place.nd
    refine ⟨_, (pss_cons (ps_if (pt_not (pt_val (pe_fn Fis_name (hr.mono (by decide)) (pa_cons (pv 0) pa_nil))))
        (pss_one ps_never)
        pss_nil)
      (pss_cons (ps_if (pt_not (pt_val (pe_fn F_is_route (hr.mono (by decide)) (pa_cons (pv 1) pa_nil))))
        (pss_one ps_never)
        pss_nil)
      (pss_one (ps_if (pt_not (pt_val (pe_fn F_are_buffers (hr.mono (by decide)) (pa_cons (pv 2) (pa_cons (pe_callB cr_len (by rfl) T.len (by decide +kernel) (pa_cons (pv 1) pa_nil)) pa_nil)))))
        (pss_one ps_never)
        pss_nil)))), ?_⟩
    show (_ : TS) _ [some _, some _, some _] _
    try dsimp only [cxOf, Cx.nox]
    have hl5 := ok.l5
    walk_at "run"
    refine ⟨n, rfl, n6, ?_⟩
    rw [nm]
    walk_at "run"
    refine ⟨a, rs, rfl, ha, ok, fun H1 e1 => ?_⟩
    walk_at "run"
    refine r_len (sqq0 e1 ha) ?_
    walk_at "run"
    refine ⟨b, xs, qs, _, rfl, sqq0 e1 hb, hq.x0 e1, hqs, ?_, ?_, fun H2 e2 => ?_⟩
    · rw [List.length_map, hq.1, hl]
    · rw [List.length_map]
      omega
    · walk_at "run"
      exact k _ (e1.trans e2)
end
end Yk

set_option maxHeartbeats 8000000
namespace Yk
open PySem PySem.Spec PyProof.Rows L2

local macro_rules | `(tactic| walk_at "st") => `(tactic| first
  | with_reducible refine' r_tAt ?_
  | ((with_reducible refine' r_fld ?h1 ?h2 ?h3); (case h1 => first | assumption | exact upd_same); (case h2 => first | walk_at "lk" | rfl))
  | with_reducible refine' r_sAt ?_
  | ((with_reducible refine' r_putU ?h1 ?h2); (case h1 => (repeat refine putF_lt ?_); decide))
  | ((with_reducible refine' r_put ?h1 ?h2 ?h3); (case h1 => first | assumption | exact upd_same); (case h2 => (repeat refine putF_lt ?_); decide))
  | with_reducible refine' r_tMt ?_
  | ((with_reducible refine' r_met ?h1 ?h2 ?h3); (case h1 => first | assumption | exact upd_same); (case h2 => first | walk_at "lk" | rfl))
  | with_reducible refine' r_tCr ?_
  | with_reducible refine' r_tCrK ?_
  | with_reducible refine' r_chain ?_)
/-! Flows are made. -/
theorem r_tupleQ {K : PySem.W.Frag} {H : Hp} {Q : VK} {p : Addr} {ys : List V} (h : SqQ K H p ys) (k : ∀ t H1, Ext [] H H1 → SqT K H1 t ys → Q (.ref t) H1) : rTs K [.ref p] H Q :=
  h.elim (fun h => ⟨p, ys, rfl, .inl ⟨h, fun l hl => k l _ (Ext.refl.new hl) tupS⟩⟩) (fun h => ⟨p, ys, rfl, .inr ⟨h, k p H Ext.refl h⟩⟩)
theorem sqqO {K : PySem.W.Frag} {H H1 : Hp} {C a dx t : Addr} {fs : List (Str × V)} {xs : List V} (e : Ext [a] H H1) (ha : H a = some (.ins C dx fs)) (h : SqQ K H t xs) : SqQ K H1 t xs := by
  rcases h with h | h
  · refine .inl ?_
    have ne : ∀ o, H t = some o → (∀ C dx fs, o ≠ .ins C dx fs) → t ∉ [a] := fun o ho hn z => by
      rw [List.mem_singleton.mp z, ha] at ho
      exact hn _ _ _ (Option.some.inj ho).symm
    rcases h with (h | ⟨o, h⟩) | h
    · exact .inl (.inl (e _ _ h (ne _ h fun _ _ _ z => nomatch z)))
    · exact .inl (.inr ⟨o, e _ _ h (ne _ h fun _ _ _ z => nomatch z)⟩)
    · exact .inr h
  · exact .inr (tupO e ha h)
theorem Ams.o {K : PySem.W.Frag} {H H1 : Hp} {C a dx : Addr} {fs : List (Str × V)} {vs : List V} {qs : List Rat} (e : Ext [a] H H1) (ha : H a = some (.ins C dx fs)) (h : Ams K H vs qs) : Ams K H1 vs qs := ⟨h.1, fun i v q a b => (h.2 i v q a b).o e ha⟩
theorem ManIs.o {K : PySem.W.Frag} {H H1 : Hp} {C a dx : Addr} {fs : List (Str × V)} {v : V} {man : Option (Rat × Rat)} (e : Ext [a] H H1) (ha : H a = some (.ins C dx fs)) (h : ManIs K H v man) : ManIs K H1 v man := by
  cases man with
  | none => obtain ⟨t, rfl, h⟩ := h; exact ⟨t, rfl, tupO e ha h⟩
  | some p => obtain ⟨t, v1, v2, rfl, h, a1, a2⟩ := h; exact ⟨t, v1, v2, rfl, tupO e ha h, a1.o e ha, a2.o e ha⟩
theorem SizeIs.o {K : PySem.W.Frag} {H H1 : Hp} {C a dx : Addr} {fs : List (Str × V)} {v : V} {z : SizeD} (e : Ext [a] H H1) (ha : H a = some (.ins C dx fs)) (h : SizeIs K H v z) : SizeIs K H1 v z := by
  cases z with
  | no => exact h
  | win q => exact ⟨h.1.o e ha, h.2⟩
  | tries n => exact h
theorem SizeIs.x0 {K : PySem.W.Frag} {H H1 : Hp} {v : V} {z : SizeD} (e : Ext [] H H1) (h : SizeIs K H v z) : SizeIs K H1 v z := by
  cases z with
  | no => exact h
  | win q => exact ⟨h.1.x0 e, h.2⟩
  | tries n => exact h
structure FlowD where
  n : Str
  rs : List Str
  bs : List Rat
  d : Str
  z : SizeD
  w : Int
  l : Rat
  c : Rat
  g : Rat
  y : Int
  man : Option (Rat × Rat)
  b : Bool
structure FlowOk (F : FlowD) : Prop where
  n6 : F.n.length ≤ 6
  nm : nameB F.n = true
  rt : RouteOk F.rs
  bl : F.bs.length = F.rs.length
  bf : ∀ q ∈ F.bs, BufQ q
  kd : kindOk F.d F.z
  w1 : 1 ≤ F.w
  w2 : F.w ≤ 12
  sl : SmQ F.l
  sc : SmQ F.c
  sg : SmQ F.g
  lc : F.l ≤ F.c
  cg : F.c ≤ F.g
  y1 : 1 ≤ F.y
  y2 : F.y ≤ 20
  mn : ∀ p, F.man = some p → PairOk p ∧ p.1 ≤ F.l ∧ p.2 ≤ F.c
def FlowFs (n : Str) (vr vb : V) (d : Str) (vz : V) (w : Int) (vl vc vg : V) (y : Int) (vm : V) (b : Bool) (k : Int) : List (Str × V) :=
  [("name", .str n), ("route", vr), ("buffers", vb), ("kind", .str d), ("size", vz), ("weight", .int w), ("least", vl), ("cap", vc), ("door", vg), ("way", .int y), ("manner", vm), ("strange", .bl b), ("last", .int k)]
section
variable {P : Program} {w : World} {K : PySem.W.Frag} {mg : Str → Option Value} {base : Heap} {f : Addr} {fd : FuncData} {kws : List (Str × V)}
def spFlowInit (cF : Addr) (K : PySem.W.Frag) : Sp := fun vs H Q _ => ∃ (a dx ra ba : Addr) (xs : List V) (vz vl vc vg vm : V) (F : FlowD), vs = [.ref a, .str F.n, .ref ra, .ref ba, .str F.d, vz, .int F.w, vl, vc, vg, .int F.y, vm, .bl F.b] ∧ H a = some (.ins cF dx []) ∧ FlowOk F ∧
  SqQ K H ra (F.rs.map V.str) ∧ SqQ K H ba xs ∧ Ams K H xs F.bs ∧ SizeIs K H vz F.z ∧ Am K H vl F.l ∧ Am K H vc F.c ∧ Am K H vg F.g ∧ ManIs K H vm F.man ∧
  ∀ (H' : Hp) (t1 t2 : Addr), Ext [a] H H' → H' a = some (.ins cF dx (FlowFs F.n (.ref t1) (.ref t2) F.d vz F.w vl vc vg F.y vm F.b (F.rs.length : Int))) → SqT K H' t1 (F.rs.map V.str) → SqT K H' t2 xs → Q .non H'
abbrev s_Flow___init__ : Stmt := inClass (top 41) 0
theorem c_Flow___init__ : FnScope ["self", "name", "route", "buffers", "kind", "size", "weight", "least", "cap", "door", "way", "manner", "strange"] ["self", "name", "route", "buffers", "kind", "size", "weight", "least", "cap", "door", "way", "manner", "strange"] (defScope s_Flow___init__) := ⟨rfl, rfl, rfl, by decide +kernel, rfl, by decide +kernel, by decide +kernel⟩
theorem f_Flow___init__ (F : FunD K "__init__" "Flow.__init__" (defArgs s_Flow___init__) (defBody s_Flow___init__) (defScope s_Flow___init__) [] kws f fd) {cF : Addr} (T : Bt mg) (LF : ∃ t, mg "LONGEST_WAY" = some (.int 20 t)) (TFlow : Ct K mg "Flow" cF ["name", "route", "buffers", "kind", "size", "weight", "least", "cap", "door", "way", "manner", "strange", "last"]) (F_check_place : Fn P w K mg base 5 "_check_place" (spChPlace K)) (F_check_kind : Fn P w K mg base 5 "_check_kind" (spChKind K)) (F_check_promise : Fn P w K mg base 4 "_check_promise" (spChProm K)) (Fis_small : Fn P w K mg base 3 "is_small" (spSmall K)) (Fcompare : Fn P w K mg base 1 "compare" (spCompare K)) (Fis_number_within : Fn P w K mg base 2 "is_number_within" spWithin) (F_is_manner_within : Fn P w K mg base 4 "_is_manner_within" (spManIn K)) : FnOk P w K mg base CX0 6 f fd ["self", "name", "route", "buffers", "kind", "size", "weight", "least", "cap", "door", "way", "manner", "strange"] (spFlowInit cF K) := by
  refine ok_meth F c_Flow___init__ (fun vs H Q E h => ?_) (fun cdv A outer s H vs Q E hr h => ?_)
  · obtain ⟨a, dx, ra, ba, xs, vz, vl, vc, vg, vm, F, rfl, _⟩ := h
    rfl
  · obtain ⟨a, dx, ra, ba, xs, vz, vl, vc, vg, vm, F, rfl, ha, ok, hr1, hb, hq, hz, hl, hc, hg, hm1, k⟩ := h
    have nd := c_Flow___init__.nd
    obtain ⟨tf, mlf⟩ := LF
    refine ⟨_, (pss_cons (ps_expr (pe_fn F_check_place (hr.mono (by decide)) (pa_cons (pv 1) (pa_cons (pv 2) (pa_cons (pv 3) pa_nil)))))
      (pss_cons (ps_expr (pe_fn F_check_kind (hr.mono (by decide)) (pa_cons (pv 4) (pa_cons (pv 5) pa_nil))))
      (pss_cons (ps_expr (pe_fn F_check_promise (hr.mono (by decide)) (pa_cons (pv 6) (pa_cons (pv 7) (pa_cons (pv 8) pa_nil)))))
      (pss_cons (ps_if (pt_cmpR op_isN (pv 9) pe_non (nomark _))
        (pss_one (ps_set (i := 9) nd rfl (by first | exact Or.inl rfl | exact Or.inr rfl) (pv 8)))
        pss_nil)
      (pss_cons (ps_if (PW.pt (pw_or (pt_not (pt_val (pe_fn Fis_small (hr.mono (by decide)) (pa_cons (pv 9) pa_nil)))) (pw_or1 (pt_cmpR op_gt (pe_fn Fcompare (hr.mono (by decide)) (pa_cons (pv 8) (pa_cons (pv 9) pa_nil))) pe_int (nomark _)))))
        (pss_one ps_never)
        pss_nil)
      (pss_cons (ps_if (pt_not (pt_val (pe_fn Fis_number_within (hr.mono (by decide)) (pa_cons (pv 10) (pa_cons pe_int (pa_cons (pe_glob (v := .int 20) rfl mlf ⟨_, rfl⟩) pa_nil))))))
        (pss_one ps_never)
        pss_nil)
      (pss_cons (ps_if (pt_cmpR op_isN (pv 11) pe_non (nomark _))
        (pss_one (ps_set (i := 11) nd rfl (by first | exact Or.inl rfl | exact Or.inr rfl) (pe_tup (pa_cons (pv 7) (pa_cons (pv 8) pa_nil)))))
        pss_nil)
      (pss_cons (ps_if (pt_not (pt_val (pe_fn F_is_manner_within (hr.mono (by decide)) (pa_cons (pv 11) (pa_cons (pv 7) (pa_cons (pv 8) pa_nil))))))
        (pss_one ps_never)
        pss_nil)
      (pss_cons (ps_if (pt_not (pt_val (pe_callB call_isi (by rfl) T.isinstance (by decide +kernel) (pa_cons (pv 12) (pa_cons (pe_bltn (v := .ty "bool") (by rfl) T.bool (by decide +kernel) rfl) pa_nil)))))
        (pss_one ps_never)
        pss_nil)
      (pss_cons (ps_at TFlow (by decide +kernel) (pv 0) (pv 1))
      (pss_cons (ps_at TFlow (by decide +kernel) (pv 0) (pe_callTy cr_tuple (by rfl) T.tuple (by decide +kernel) (pa_cons (pv 2) pa_nil)))
      (pss_cons (ps_at TFlow (by decide +kernel) (pv 0) (pe_callTy cr_tuple (by rfl) T.tuple (by decide +kernel) (pa_cons (pv 3) pa_nil)))
      (pss_cons (ps_at TFlow (by decide +kernel) (pv 0) (pv 4))
      (pss_cons (ps_at TFlow (by decide +kernel) (pv 0) (pv 5))
      (pss_cons (ps_at TFlow (by decide +kernel) (pv 0) (pv 6))
      (pss_cons (ps_at TFlow (by decide +kernel) (pv 0) (pv 7))
      (pss_cons (ps_at TFlow (by decide +kernel) (pv 0) (pv 8))
      (pss_cons (ps_at TFlow (by decide +kernel) (pv 0) (pv 9))
      (pss_cons (ps_at TFlow (by decide +kernel) (pv 0) (pv 10))
      (pss_cons (ps_at TFlow (by decide +kernel) (pv 0) (pv 11))
      (pss_cons (ps_at TFlow (by decide +kernel) (pv 0) (pv 12))
      (pss_one (ps_at TFlow (by decide +kernel) (pv 0) (pe_callB cr_len (by rfl) T.len (by decide +kernel) (pa_cons (pe_at TFlow (by decide +kernel) (pv 0)) pa_nil))))))))))))))))))))))))), ?_⟩
    show (_ : TS) _ [some _, some _, some _, some _, some _, some _, some _, some _, some _, some _, some _, some _, some _] _
    try dsimp only [cxOf, Cx.nox]
    have s4 : ∀ {q : Rat}, SmQ q → Sz 4000 q := fun h => h.sz (by decide)
    walk_at "run"
    refine ⟨F.n, ra, ba, F.rs, xs, F.bs, rfl, ok.n6, ok.nm, hr1, ok.rt, hb, hq, ok.bf, ok.bl, fun H1 e1 => ?_⟩
    walk_at "run"
    refine ⟨F.d, vz, F.z, rfl, hz.x0 e1, ok.kd, ?_⟩
    walk_at "run"
    refine ⟨F.w, vl, vc, F.l, F.c, rfl, ok.w1, ok.w2, hl.x0 e1, hc.x0 e1, ok.sl, ok.sc, ok.lc, ?_⟩
    walk_at "run"
    have g1 : decide (vg = V.non) = false := by
      obtain ⟨t, rfl, _⟩ := hg
      exact decide_eq_false fun z => by cases z
    refine r_false g1 ?_
    walk_at "run"
    refine ⟨vg, F.g, rfl, hg.x0 e1, ok.sg, ?_⟩
    walk_at "run"
    refine ⟨vc, vg, F.c, F.g, rfl, hc.x0 e1, hg.x0 e1, s4 ok.sc, s4 ok.sg, ?_⟩
    walk_at "run"
    refine r_false (cmp_ngt ok.cg) ?_
    walk_at "run"
    refine ⟨F.y, 1, 20, rfl, ?_⟩
    rw [decide_eq_true ok.y1, decide_eq_true ok.y2]
    walk_at "run"
    have g2 : decide (vm = V.non) = false := by
      have : ∃ t, vm = .ref t := by
        cases hman : F.man with
        | none => rw [hman] at hm1; obtain ⟨t, rfl, _⟩ := hm1; exact ⟨t, rfl⟩
        | some p => rw [hman] at hm1; obtain ⟨t, _, _, rfl, _⟩ := hm1; exact ⟨t, rfl⟩
      obtain ⟨t, rfl⟩ := this
      exact decide_eq_false fun z => by cases z
    refine r_false g2 ?_
    walk_at "run"
    refine ⟨vm, vl, vc, F.man, F.l, F.c, rfl, hm1.x0 e1, hl.x0 e1, hc.x0 e1, s4 ok.sl, s4 ok.sc, ok.mn, fun H2 e2 => ?_⟩
    have e12 := e1.trans e2
    have h2 : H2 a = some (.ins cF dx []) := e12 _ _ ha fun z => nomatch z
    walk_at "run"
    generalize h3 : upd H2 a _ = H3 at *
    have E3 : Ext [a] H H3 := by rw [← h3]; exact (Ext.of0 e12 : Ext [a] H H2).at_ List.mem_cons_self
    have a3 : H3 a = some (.ins cF dx (putF "name" (V.str F.n) [])) := by rw [← h3]; exact upd_same
    refine r_tupleQ (sqqO E3 ha hr1) fun t1 H4 e4 s4' => ?_
    have E4 : Ext [a] H H4 := E3.trans e4.of0
    have a4 : H4 a = some (.ins cF dx (putF "name" (V.str F.n) [])) := e4 _ _ a3 fun z => nomatch z
    walk_at "run"
    generalize h5 : upd H4 a _ = H5 at *
    have E5 : Ext [a] H4 H5 := by rw [← h5]; exact (Ext.refl : Ext [a] H4 H4).at_ List.mem_cons_self
    have a5 : H5 a = some (.ins cF dx (putF "route" (V.ref t1) (putF "name" (V.str F.n) []))) := by rw [← h5]; exact upd_same
    have s5 : SqT K H5 t1 (F.rs.map V.str) := tupO E5 a4 s4'
    refine r_tupleQ (sqqO (E4.trans E5) ha hb) fun t2 H6 e6 s6 => ?_
    have E6 : Ext [a] H H6 := (E4.trans E5).trans e6.of0
    have a6 : H6 a = some (.ins cF dx (putF "route" (V.ref t1) (putF "name" (V.str F.n) []))) := e6 _ _ a5 fun z => nomatch z
    walk_at "run"
    refine r_len (.inr (tupO (Ext.refl.at_ List.mem_cons_self) a6 (tup0 e6 s5))) ?_
    walk_at "run"
    rw [List.length_map]
    have e : ∀ n r u d z w l c g y m b k, putF "last" (.int k) (putF "strange" (.bl b) (putF "manner" m (putF "way" (.int y) (putF "door" g (putF "cap" c (putF "least" l (putF "weight" (.int w) (putF "size" z (putF "kind" (.str d) (putF "buffers" u (putF "route" r (putF "name" (.str n) [])))))))))))) = FlowFs n r u d z w l c g y m b k := by
      intros
      kernel_rfl
    rw [e]
    exact k _ t1 t2 (E6.at_ List.mem_cons_self) upd_same (tupO (Ext.refl.at_ List.mem_cons_self) a6 (tup0 e6 s5)) (tupO (Ext.refl.at_ List.mem_cons_self) a6 s6)
end
end Yk

set_option maxHeartbeats 8000000
namespace Yk
open PySem PySem.Spec PyProof.Rows L2

local macro_rules | `(tactic| walk_at "st") => `(tactic| first
  | with_reducible refine' r_tAt ?_
  | ((with_reducible refine' r_fld ?h1 ?h2 ?h3); (case h1 => first | assumption | exact upd_same); (case h2 => first | walk_at "lk" | rfl))
  | with_reducible refine' r_sAt ?_
  | ((with_reducible refine' r_putU ?h1 ?h2); (case h1 => (repeat refine putF_lt ?_); decide))
  | ((with_reducible refine' r_put ?h1 ?h2 ?h3); (case h1 => first | assumption | exact upd_same); (case h2 => (repeat refine putF_lt ?_); decide))
  | with_reducible refine' r_tMt ?_
  | ((with_reducible refine' r_met ?h1 ?h2 ?h3); (case h1 => first | assumption | exact upd_same); (case h2 => first | walk_at "lk" | rfl))
  | with_reducible refine' r_tCr ?_
  | with_reducible refine' r_tCrK ?_
  | with_reducible refine' r_chain ?_)
/-! Flows as data. -/
def FlowAt (cF : Addr) (K : PySem.W.Frag) (H : Hp) (v : V) (F : FlowD) : Prop := ∃ (a dx t1 t2 : Addr) (xs : List V) (vz vl vc vg vm : V), v = .ref a ∧ H a = some (.ins cF dx (FlowFs F.n (.ref t1) (.ref t2) F.d vz F.w vl vc vg F.y vm F.b (F.rs.length : Int))) ∧
  SqT K H t1 (F.rs.map V.str) ∧ SqT K H t2 xs ∧ Ams K H xs F.bs ∧ SizeIs K H vz F.z ∧ Am K H vl F.l ∧ Am K H vc F.c ∧ Am K H vg F.g ∧ ManIs K H vm F.man
theorem FlowAt.x0 {cF : Addr} {K : PySem.W.Frag} {H H1 : Hp} {v : V} {F : FlowD} (e : Ext [] H H1) (h : FlowAt cF K H v F) : FlowAt cF K H1 v F := by
  obtain ⟨a, dx, t1, t2, xs, vz, vl, vc, vg, vm, rfl, h, h1, h2, h3, h4, h5, h6, h7, h8⟩ := h
  exact ⟨a, dx, t1, t2, xs, vz, vl, vc, vg, vm, rfl, e _ _ h (fun z => nomatch z), tup0 e h1, tup0 e h2, h3.x0 e, h4.x0 e, h5.x0 e, h6.x0 e, h7.x0 e, h8.x0 e⟩
theorem LinkAt.o {cL : Addr} {K : PySem.W.Frag} {H H1 : Hp} {C a dx : Addr} {fs : List (Str × V)} {v : V} {L : LinkD} (e : Ext [a] H H1) (ha : H a = some (.ins C dx fs)) (hc : C ≠ cL) (h : LinkAt cL K H v L) : LinkAt cL K H1 v L := by
  obtain ⟨b, dy, vc, vl, rfl, h, h1, h2⟩ := h
  refine ⟨b, dy, vc, vl, rfl, e _ _ h fun z => ?_, h1.o e ha, h2.o e ha⟩
  rw [List.mem_singleton.mp z, ha] at h
  cases h
  exact hc rfl
theorem FlowAt.o {cF : Addr} {K : PySem.W.Frag} {H H1 : Hp} {C a dx : Addr} {fs : List (Str × V)} {v : V} {F : FlowD} (e : Ext [a] H H1) (ha : H a = some (.ins C dx fs)) (hc : C ≠ cF) (h : FlowAt cF K H v F) : FlowAt cF K H1 v F := by
  obtain ⟨b, dy, t1, t2, xs, vz, vl, vc, vg, vm, rfl, h, h1, h2, h3, h4, h5, h6, h7, h8⟩ := h
  refine ⟨b, dy, t1, t2, xs, vz, vl, vc, vg, vm, rfl, e _ _ h fun z => ?_, tupO e ha h1, tupO e ha h2, h3.o e ha, h4.o e ha, h5.o e ha, h6.o e ha, h7.o e ha, h8.o e ha⟩
  rw [List.mem_singleton.mp z, ha] at h
  cases h
  exact hc rfl
section
variable {n d : Str} {vr vb vz vl vc vg vm : V} {w y k : Int} {b : Bool}
theorem lk_Flow_name : List.lookup ("name" : Str) (FlowFs n vr vb d vz w vl vc vg y vm b k) = some (V.str n) := by kernel_rfl
theorem lk_Flow_route : List.lookup ("route" : Str) (FlowFs n vr vb d vz w vl vc vg y vm b k) = some vr := by kernel_rfl
theorem lk_Flow_buffers : List.lookup ("buffers" : Str) (FlowFs n vr vb d vz w vl vc vg y vm b k) = some vb := by kernel_rfl
theorem lk_Flow_kind : List.lookup ("kind" : Str) (FlowFs n vr vb d vz w vl vc vg y vm b k) = some (V.str d) := by kernel_rfl
theorem lk_Flow_size : List.lookup ("size" : Str) (FlowFs n vr vb d vz w vl vc vg y vm b k) = some vz := by kernel_rfl
theorem lk_Flow_weight : List.lookup ("weight" : Str) (FlowFs n vr vb d vz w vl vc vg y vm b k) = some (V.int w) := by kernel_rfl
theorem lk_Flow_least : List.lookup ("least" : Str) (FlowFs n vr vb d vz w vl vc vg y vm b k) = some vl := by kernel_rfl
theorem lk_Flow_cap : List.lookup ("cap" : Str) (FlowFs n vr vb d vz w vl vc vg y vm b k) = some vc := by kernel_rfl
theorem lk_Flow_door : List.lookup ("door" : Str) (FlowFs n vr vb d vz w vl vc vg y vm b k) = some vg := by kernel_rfl
theorem lk_Flow_way : List.lookup ("way" : Str) (FlowFs n vr vb d vz w vl vc vg y vm b k) = some (V.int y) := by kernel_rfl
theorem lk_Flow_manner : List.lookup ("manner" : Str) (FlowFs n vr vb d vz w vl vc vg y vm b k) = some vm := by kernel_rfl
theorem lk_Flow_strange : List.lookup ("strange" : Str) (FlowFs n vr vb d vz w vl vc vg y vm b k) = some (V.bl b) := by kernel_rfl
theorem lk_Flow_last : List.lookup ("last" : Str) (FlowFs n vr vb d vz w vl vc vg y vm b k) = some (V.int k) := by kernel_rfl
theorem lk_Flow_is_gone : List.lookup ("is_gone" : Str) (FlowFs n vr vb d vz w vl vc vg y vm b k) = none := by kernel_rfl
theorem lk_Flow_with_manner : List.lookup ("with_manner" : Str) (FlowFs n vr vb d vz w vl vc vg y vm b k) = none := by kernel_rfl
theorem lk_Flow__changed : List.lookup ("_changed" : Str) (FlowFs n vr vb d vz w vl vc vg y vm b k) = none := by kernel_rfl
end
local macro_rules | `(tactic| walk_at "lk") => `(tactic| first | with_reducible exact lk_Flow_name | with_reducible exact lk_Flow_route | with_reducible exact lk_Flow_buffers | with_reducible exact lk_Flow_kind | with_reducible exact lk_Flow_size | with_reducible exact lk_Flow_weight | with_reducible exact lk_Flow_least | with_reducible exact lk_Flow_cap | with_reducible exact lk_Flow_door | with_reducible exact lk_Flow_way | with_reducible exact lk_Flow_manner | with_reducible exact lk_Flow_strange | with_reducible exact lk_Flow_last | with_reducible exact lk_Flow_is_gone | with_reducible exact lk_Flow_with_manner | with_reducible exact lk_Flow__changed)
section
variable {P : Program} {w : World} {K : PySem.W.Frag} {mg : Str → Option Value} {base : Heap} {f : Addr} {fd : FuncData}
def spGone (cF : Addr) (K : PySem.W.Frag) : Sp := fun vs H Q _ => ∃ (v : V) (F : FlowD), vs = [v] ∧ FlowAt cF K H v F ∧ ∀ H', Ext [] H H' → Q (.bl F.man.isNone) H'
def spLawFlow (cF : Addr) (K : PySem.W.Frag) : Sp := fun vs H Q _ => ∃ (t ra ba : Addr) (xs : List V) (vz vl vc vg vm : V) (F : FlowD), vs = [.ref t] ∧ SqT K H t [.str F.n, .ref ra, .ref ba, .str F.d, vz, .int F.w, vl, vc, vg, .int F.y, vm, .bl F.b] ∧ FlowOk F ∧
  SqQ K H ra (F.rs.map V.str) ∧ SqQ K H ba xs ∧ Ams K H xs F.bs ∧ SizeIs K H vz F.z ∧ Am K H vl F.l ∧ Am K H vc F.c ∧ Am K H vg F.g ∧ ManIs K H vm F.man ∧ ∀ v H', Ext [] H H' → FlowAt cF K H' v F → Q v H'
end
end Yk

set_option maxHeartbeats 1000000
/-! {k: v}, k a tuple of ints and texts. -/
namespace Yk
open PySem PySem.Spec PyProof.Rows L2
def tDisp1T (tk tv : TE) : TE := fun σ H Q => ∀ p, H p = none → tk σ (upd H p (.dT [])) fun x H1 => tv σ H1 fun y H2 => ∃ (b : Addr) (k : List Key), x = .ref b ∧ H2 b = some (.tup (k.map kV)) ∧ H2 p = some (.dT []) ∧ Q (.ref p) (upd H2 p (.dT [(k, y)]))
theorem pe_disp1T {X : Cx} {pos : Pos} {ke ve : Expr} {tk tv : TE} (hu : X.A.units + 1 < cLine) (hk : PE X ke tk) (hv : PE X ve tv) : PE X (.Dict [some ke] [ve] pos) (tDisp1T tk tv) := by
  refine ⟨fun pins s σ H Q I q => ?_⟩
  have hn := I.hok.fresh (Nat.le_refl s.heap.objs.size)
  have I1 := I.laid (a := s.heap.objs.size) (o := .dT []) (h' := s.heap.push { cls := .type "dict", data := .dict #[] }) (t' := s.toks) (fun _ _ q => Heap.get?_push_of_some _ q) (Nat.le_refl _) (dt_empty s.heap I.big)
  rw [arm_eval_Dict, zip_pairTrees [some ke] [ve] X.env pos rfl rfl, dictDisplay_pairs (pairTrees [some ke] [ve] X.env pos) (by simp [pairTrees]) (by simp [pairTrees])]
  refine wpAny_bind (wpAny_standAt (wpAny_bind ?_))
  unfold subDict
  refine wpAny_bind (wpAny_alloc ?_)
  refine wpAny_bind (wpAny_holding ?_)
  rw [if_pos (by simp [pairTrees])]
  refine wpAny_bind (pairTrees_cons_walk (thn (hk.run pins _ σ _ _ I1 (q _ hn)) fun u s2 ⟨x, H1, I2, rx, q1⟩ => thn (hv.run pins s2 σ H1 _ I2 q1) fun u2 s3 ⟨y, H2, I3, ry, b, k, ex, eb, ep, q2⟩ => pairTrees_nil_walk ?_))
  subst ex
  obtain rfl : u = Value.ref b := rx
  refine wpAny_holding ?_
  rw [List.forIn_cons]
  obtain ⟨z, hd, xs, rel, dd⟩ := dt_of I3.hok ep
  have hx : xs = [] := by
    have := Paired.length rel
    cases xs with
    | nil => rfl
    | cons a r => cases this
  subst hx
  refine wpAny_bind (wpAny_bind (wpAny_bind (wpAny_dictSet_heap (knd := tupleKind (mixKind X.prog X.w)) (hsz := Nat.zero_le _) (show X.A.units < cLine by omega) (key_of I3.hok eb) dd fun h' dd' hs => wpAny_pure ?_)))
  dsimp only
  rw [List.forIn_nil]
  refine wpAny_pure (wpAny_pure (wpAny_pure (wpAny_pure ?_)))
  refine ⟨.ref s.heap.objs.size, _, ?_, rfl, q2⟩
  obtain ⟨q, es, ep2, hq, h2, h3, h4, _, h5⟩ := dd'
  have rel2 : KT H2 (putK [] k y) (storedH [] k b u2) := KT.put .nil k eb ry
  refine d_write I3 (by rw [ep]; exact True.intro) hs ⟨q, hq⟩ ⟨by rw [sizeLine_eq]; show 1 ≤ 16777216; decide, hd, _, rel2.keeps fun c ys ec => ?_, q, es, ep2, hq, h2, h3, h4, h5⟩
  rw [upd_ne (ne_of ec ep (fun z => nomatch z))]
  exact ec
end Yk
namespace Yk
open PySem PySem.Spec PyProof.Rows L2
/-- == of the class's own objects, where it says True -/
structure Oe (P : Program) (w : World) (K : PySem.W.Frag) (mg : Str → Option Value) (base : Heap) (k : Nat) (C : Addr) (R : Addr → Addr → Hp → Prop) : Prop where
  run : ∃ f fd ps, FnOk P w K mg base CX0 k f fd ps (spEq R) ∧ Meth K C "__eq__" f ∧ Binds K fd ps []
theorem op_own {X : Cx} {k : Nat} {C : Addr} {R : Addr → Addr → Hp → Prop} (F : Oe X.prog X.w X.K X.mg X.base k C R) (hr : Room k X.A) (hx : Passes CX0 X E0 := by exact pass0) : OpR X (compareOp .Eq) (rEqG (DIns C R)) := by
  obtain ⟨f, fd, ps, F, m, hb⟩ := F.run
  exact op_eqG (rcG_ins F m.at_ m.fn hb hx) hr
end Yk

set_option maxHeartbeats 8000000
namespace Yk
open PySem PySem.Spec PyProof.Rows L2

local macro_rules | `(tactic| walk_at "st") => `(tactic| first
  | with_reducible refine' r_tAt ?_
  | ((with_reducible refine' r_fld ?h1 ?h2 ?h3); (case h1 => first | assumption | exact upd_same); (case h2 => first | walk_at "lk" | rfl))
  | with_reducible refine' r_sAt ?_
  | ((with_reducible refine' r_putU ?h1 ?h2); (case h1 => (repeat refine putF_lt ?_); decide))
  | ((with_reducible refine' r_put ?h1 ?h2 ?h3); (case h1 => first | assumption | exact upd_same); (case h2 => (repeat refine putF_lt ?_); decide))
  | with_reducible refine' r_tMt ?_
  | ((with_reducible refine' r_met ?h1 ?h2 ?h3); (case h1 => first | assumption | exact upd_same); (case h2 => first | walk_at "lk" | rfl))
  | with_reducible refine' r_tCr ?_
  | with_reducible refine' r_tCrK ?_
  | with_reducible refine' r_chain ?_)
local macro_rules | `(tactic| walk_at "st") => `(tactic| first
  | with_reducible refine' r_dget ?_
  | with_reducible refine' r_dc ?_
  | with_reducible refine' r_iVals ?_
  | with_reducible refine' r_dnotin ?_
  | with_reducible refine' r_din ?_
  | with_reducible refine' r_iItems ?_
  | with_reducible refine' r_iKeysT ?_
  | with_reducible refine' r_tget1 ?_
  | with_reducible refine' r_tget2 ?_
  | with_reducible refine' r_dput ?_
  | with_reducible refine' r_tPr ?_
  | ((with_reducible refine' r_prp2 ?h1 ?h2); (case h1 => first | assumption | exact upd_same))
  | with_reducible refine' r_par3 ?_
  | ((with_reducible refine' r_dnT ?_); (intro np hnp))
  | ((with_reducible refine' r_dnK ?_); (intro np hnp)))
/-! Names that the law draws. -/
def abcL : List Nat := [97, 98, 99, 100, 101, 102, 103, 104, 105, 106, 107, 108, 109, 110, 111, 112, 113, 114, 115, 116, 117, 118, 119, 120, 121, 122]
def abcS : Str := "abcdefghijklmnopqrstuvwxyz"
theorem abc_is : abcS = ⟨abcL.toArray⟩ := by decide +kernel
structure NmS (s : Str) : Prop where
  l1 : 1 ≤ s.length
  l6 : s.length ≤ 6
  low : ∀ c ∈ s.cps.toList, c ∈ abcL
theorem abc_props : ∀ c ∈ abcL, (decide (c < 128) && Unicode.isAlpha c && Unicode.isLower c && !(Unicode.isUpper c || Unicode.isTitle c)) = true := by decide +kernel
theorem NmS.ok {s : Str} (h : NmS s) : nameB s = true := by
  have p := fun c hc => abc_props c (h.low c hc)
  simp only [Bool.and_eq_true] at p
  unfold nameB
  simp only [Bool.and_eq_true]
  have l1 := h.l1
  refine ⟨⟨⟨decide_eq_true h.l6, ?_⟩, ?_⟩, ?_⟩
  · unfold Txt.isascii
    rw [Array.all_eq_true_iff_forall_mem]
    intro c hc
    exact (p c (by simpa using hc)).1.1.1
  · unfold Txt.isalpha
    rw [Bool.and_eq_true]
    refine ⟨decide_eq_true l1, ?_⟩
    rw [Array.all_eq_true_iff_forall_mem]
    intro c hc
    exact (p c (by simpa using hc)).1.1.2
  · unfold Txt.islower
    rw [Bool.and_eq_true]
    constructor
    · rw [Array.any_eq_true]
      refine ⟨0, l1, (p _ ?_).1.2⟩
      exact Array.mem_toList_iff.mpr (Array.getElem_mem _)
    · rw [Bool.not_eq_true', ← Bool.not_eq_true, Array.any_eq_true]
      rintro ⟨i, hi, e⟩
      have := (p s.cps[i] (Array.mem_toList_iff.mpr (Array.getElem_mem _))).2
      rw [e] at this
      cases this
def ch1 (c : Nat) : Str := ⟨#[c]⟩
theorem abc_index : ∀ c ∈ abcL, (match Builtin.Str.occurrences abcS (ch1 c) 0 abcS.length 1 with | i :: _ => decide (i < 26) | [] => false) = true := by decide +kernel
theorem abc_at {c : Nat} (h : c ∈ abcL) : ∃ i rest, Builtin.Str.occurrences abcS (ch1 c) 0 abcS.length 1 = i :: rest ∧ i < 26 := by
  have := abc_index c h
  split at this
  · rename_i i r e
    exact ⟨i, r, e, of_decide_eq_true this⟩
  · cases this
theorem join_ch : ∀ cs : List Nat, Txt.join "" (cs.map ch1) = ⟨cs.toArray⟩ := by
  intro cs
  rw [TL.join_eq]
  induction cs with
  | nil => rfl
  | cons c r ih =>
    cases r with
    | nil => rfl
    | cons d r =>
      show ch1 c ++ "" ++ Str.join "" ((d :: r).map ch1) = _
      rw [ih]
      show (⟨(#[c] ++ ("" : Str).cps) ++ (d :: r).toArray⟩ : Str) = _
      simp
      rfl

/-- a sign of a text -/
def spOfS (K : PySem.W.Frag) : Sp := fun vs H Q _ => ∃ (b : Bag) (z : Str), vs = [.ref b.a, .str z] ∧ BagAt K H b ∧ 0 < z.length ∧ z.length ≤ 4000 ∧ ∀ c H', c ∈ z.cps.toList → BagAt K H' b → Ext [b.a] H H' → Q (.str (ch1 c)) H'
def orSp (a b : Sp) : Sp := fun vs H Q E => a vs H Q E ∨ b vs H Q E
theorem Fn.or {P : Program} {w : World} {K : PySem.W.Frag} {mg : Str → Option Value} {base : Heap} {k : Nat} {x : Str} {s1 s2 : Sp} (F : Fn P w K mg base k x s1) (G : Fn P w K mg base k x s2) : Fn P w K mg base k x (orSp s1 s2) := by
  obtain ⟨f, hf, kf, F⟩ := F.run
  obtain ⟨g, hg, kg, G⟩ := G.run
  rw [hf] at hg
  cases hg
  exact ⟨f, hf, kf, fun A outer s H us vs Q E hr e0 r h => h.elim (fun h => F A outer s H us vs Q E hr e0 r h) fun h => G A outer s H us vs Q E hr e0 r h⟩
theorem ones : ∀ l : List Nat, (l.map fun _ => 1).sum = l.length
  | [] => rfl
  | _ :: l => by rw [List.map_cons, List.sum_cons, ones l, List.length_cons, Nat.add_comm]
theorem len_tl {z : Str} : z.cps.toList.length = z.length := by rw [Array.length_toList]; rfl
theorem at_str {z : Str} {i : Nat} (h : i < z.length) : ∃ c, c ∈ z.cps.toList ∧ atI z.cps.toList (i : Int) = some c := by
  have h2 : i < z.cps.toList.length := by rw [len_tl]; exact h
  refine ⟨_, List.getElem_mem h2, ?_⟩
  unfold atI ixN
  rw [if_pos (by omega), if_pos (by omega)]
  exact List.getElem?_eq_getElem h2
theorem at_last {z : Str} (h : 1 ≤ z.length) : ∃ c, c ∈ z.cps.toList ∧ atI z.cps.toList (-1) = some c := by
  have h2 : z.cps.toList.length - 1 < z.cps.toList.length := by rw [len_tl]; omega
  refine ⟨_, List.getElem_mem h2, ?_⟩
  unfold atI ixN
  have l : z.cps.toList.length = z.length := len_tl
  rw [if_neg (by decide), if_pos (by omega)]
  simp only [Option.bind_some]
  rw [← List.getElem?_eq_getElem h2]
  congr 1
  omega
theorem of_strN {K : PySem.W.Frag} {H : Hp} {b : Bag} {l : Addr} {ns : List Str} {Q : VK} {E : XK} (hb : BagAt K H b) (hl : SqL K H l (ns.map V.str)) (hne : b.a ≠ l) (h0 : 0 < ns.length) (h4 : ns.length ≤ 4000) (k : ∀ x H', x ∈ ns → BagAt K H' b → Ext [b.a] H H' → Q (.str x) H') : spOf K [.ref b.a, .ref l] H Q E :=
  ⟨b, l, _, rfl, hb, hl, hne, by rw [List.length_map]; exact h0, by rw [List.length_map]; exact h4, fun i x H' hx hb' e => by
    rw [List.getElem?_map] at hx
    cases e2 : ns[i]? with
    | none => rw [e2] at hx; cases hx
    | some z => rw [e2] at hx; cases hx; exact k z H' (List.mem_of_getElem? e2) hb' e⟩
theorem names8 : ∀ s ∈ (["self", "all", "level", "a", "aaaaaa", "z", "end", "manner"] : List Str), (decide (1 ≤ s.length) && (decide (s.length ≤ 6) && s.cps.toList.all fun c => decide (c ∈ abcL))) = true := by decide +kernel
theorem nm8 {s : Str} (h : s ∈ (["self", "all", "level", "a", "aaaaaa", "z", "end", "manner"] : List Str)) : NmS s := by
  have := names8 s h
  simp only [Bool.and_eq_true] at this
  refine ⟨of_decide_eq_true this.1, of_decide_eq_true this.2.1, fun c hc => of_decide_eq_true (List.all_eq_true.mp this.2.2 c hc)⟩
theorem nmCh {cs : List Nat} (h1 : 1 ≤ cs.length) (h6 : cs.length ≤ 6) (h : ∀ c ∈ cs, c ∈ abcL) : NmS ⟨cs.toArray⟩ := ⟨by simpa [Str.length] using h1, by simpa [Str.length] using h6, fun c hc => h c (by simpa using hc)⟩
/-- all but the last sign, another sign -/
theorem nmTurn {s : Str} {c : Nat} (h : NmS s) (hc : c ∈ abcL) : NmS (cutS s none (some (-1)) ++ ch1 c) := by
  have l1 := h.l1
  have l6 := h.l6
  have e : cutS s none (some (-1)) = ⟨(s.cps.toList.take (s.length - 1)).toArray⟩ := by
    unfold cutS
    have e1 : HT.sIx s.length 0 none = 0 := rfl
    have e2 : HT.sIx s.length s.length (some (-1)) = s.length - 1 := by
      unfold HT.sIx
      simp
      try omega
    rw [e1, e2]
    rfl
  have e3 : cutS s none (some (-1)) ++ ch1 c = ⟨(s.cps.toList.take (s.length - 1) ++ [c]).toArray⟩ := by
    rw [e]
    show (⟨(s.cps.toList.take (s.length - 1)).toArray ++ #[c]⟩ : Str) = _
    simp
  rw [e3]
  have lt : s.cps.toList.length = s.length := len_tl
  refine nmCh ?_ ?_ ?_
  · rw [List.length_append]; simp
  · rw [List.length_append, List.length_take, lt]; simp; omega
  · intro d hd
    rcases List.mem_append.mp hd with hd | hd
    · exact h.low d (List.mem_of_mem_take hd)
    · rw [List.mem_singleton.mp hd]; exact hc
theorem r_ixS {z : Str} {i : Int} {c : Nat} {H : Hp} {Q : VK} (h1 : z.length ≤ sizeLine) (h2 : atI z.cps.toList i = some c) (h : Q (.str (ch1 c)) H) : rIxS (.str z) (.int i) H Q := ⟨z, i, c, rfl, rfl, h1, h2, h⟩
section
variable {P : Program} {w : World} {K : PySem.W.Frag} {mg : Str → Option Value} {base : Heap} {f : Addr} {fd : FuncData}
theorem g_law_of (F : FunD K "_law_of" "_law_of" (defArgs s_law_of) (defBody s_law_of) (defScope s_law_of) [] [] f fd) (hm : mg "_law_of" = some (.ref f)) (T : Bt mg) (F_law_draw : Fn P w K mg base 1 "_law_draw" (spDraw K)) : Fn P w K mg base 2 "_law_of" (spOfS K) := by
  refine fn_def F hm c_law_of (fun vs H Q E h => ?_) (fun _ _ _ _ _ _ us hl => match us, hl with | [_, _], _ => rfl) (fun cdv A outer s H vs Q E hr h => ?_)
  · obtain ⟨b, z, rfl, _⟩ := h
    rfl
  · obtain ⟨b, z, rfl, hb, h0, h4, k⟩ := h
    have nd := c_law_of.nd
    refine ⟨_, (pss_one (ps_ret (pe_ix ix_str (pv 1) (pe_fn F_law_draw (hr.mono (by decide)) (pa_cons (pv 0) (pa_cons (pe_callB call_len_str (by rfl) T.len (by decide +kernel) (pa_cons (pv 1) pa_nil)) pa_nil))) (fun _ _ => rfl)))), ?_⟩
    show (_ : TS) _ [some _, some _] _
    try dsimp only [cxOf, Cx.nox]
    have hz : z.length ≤ sizeLine := Nat.le_trans h4 (by decide)
    walk_at "go"
    refine ⟨z, rfl, hz, ?_⟩
    walk_at "go"
    refine ⟨b, _, rfl, by omega, Int.lt_of_le_of_lt (by omega : (z.length : Int) ≤ 4000) (by decide), hb, fun x H' x0 x1 hb' e => ?_⟩
    have hx : x.toNat < z.length := by omega
    have e2 : x = ((x.toNat : Nat) : Int) := by omega
    obtain ⟨c, hc, hat⟩ := at_str hx
    rw [e2]
    exact r_ixS hz hat (k c H' hc hb' e)
def spName (K : PySem.W.Frag) : Sp := fun vs H Q _ => ∃ (b : Bag) (t : Addr) (ts : List Str), vs = [.ref b.a, .ref t] ∧ BagAt K H b ∧ SqL K H t (ts.map V.str) ∧ b.a ≠ t ∧ ∀ s H', NmS s → BagAt K H' b → Ext [b.a] H H' → Q (.str s) H'
abbrev s_law_name : Stmt := top 64
theorem c_law_name : FnScope ["_law_bag_here", "_law_taken", "_law_signs", "_law_called", "_law_k"] ["_law_bag_here", "_law_taken"] (defScope s_law_name) := ⟨rfl, rfl, rfl, by decide +kernel, rfl, by decide +kernel, by decide +kernel⟩
theorem f_law_name (F : FunD K "_law_name" "_law_name" (defArgs s_law_name) (defBody s_law_name) (defScope s_law_name) [] [] f fd) (hm : mg "_law_name" = some (.ref f)) (T : Bt mg) (F_law_draw : Fn P w K mg base 1 "_law_draw" (spDraw K)) (F_law_of : Fn P w K mg base 2 "_law_of" (spOf K)) (G_law_of : Fn P w K mg base 2 "_law_of" (spOfS K)) : Fn P w K mg base 3 "_law_name" (spName K) := by
  refine fn_def F hm c_law_name (fun vs H Q E h => ?_) (fun _ _ _ _ _ _ us hl => match us, hl with | [_, _], _ => rfl) (fun cdv A outer s H vs Q E hr h => ?_)
  · obtain ⟨b, t, ts, rfl, _⟩ := h
    rfl
  · obtain ⟨b, t, ts, rfl, hb, ht, hne, k⟩ := h
    have nd := c_law_name.nd
    have F_law_of := Fn.or F_law_of G_law_of
    refine ⟨_, (pss_cons (ps_set (i := 2) nd rfl (by first | exact Or.inl rfl | exact Or.inr rfl) pe_str)
      (pss_mid (ps_if (pt_cmpR op_eq (pe_fn F_law_draw (hr.mono (by decide)) (pa_cons (pv 0) (pa_cons pe_int pa_nil))) pe_int (nomark _))
        (pss_one (ps_set (i := 3) nd rfl (by first | exact Or.inl rfl | exact Or.inr rfl) (pe_fn F_law_of (hr.mono (by decide)) (pa_cons (pv 0) (pa_cons (pe_lst (pa_cons pe_str (pa_cons pe_str (pa_cons pe_str (pa_cons pe_str (pa_cons pe_str (pa_cons pe_str (pa_cons pe_str (pa_cons pe_str pa_nil))))))))) pa_nil)))))
        (pss_one (ps_set (i := 3) nd rfl (by first | exact Or.inl rfl | exact Or.inr rfl) (pe_join pe_str (pe_lc (own := [("_law_k", 4)]) (g := gName 4) rfl nd (pi_range1 rfl T.range (pa_cons (pe_fn F_law_of (hr.mono (by decide)) (pa_cons (pv 0) (pa_cons (pe_lst (pa_cons pe_int (pa_cons pe_int (pa_cons pe_int (pa_cons pe_int (pa_cons pe_int pa_nil)))))) pa_nil))) pa_nil)) (blkOk_by (N := ["_law_bag_here", "_law_taken", "_law_signs", "_law_called", "_law_k"]) (sc := defScope s_law_name) (by decide +kernel)) (fun _ _ _ _ _ => pg_name (i := 4) nd rfl (Or.inl rfl)) (fun _ _ _ _ _ => pts_nil) (fun _ _ _ _ _ => (pe_fn F_law_of (hr.mono (by decide)) (pa_cons (pv 0) (pa_cons (pv 2) pa_nil)))))))))
      (pss_cons (ps_for PassesOwn.never rfl (pi_range1 rfl T.range (pa_cons pe_int pa_nil)) (pg_name (i := 4) nd rfl (by first | exact Or.inl rfl | exact Or.inr rfl))
        (pss_one (ps_if (pt_cmpR op_in_seq (pv 3) (pv 1) (by rfl))
          (pss_one (ps_set (i := 3) nd rfl (by first | exact Or.inl rfl | exact Or.inr rfl) (pe_op op_add_str (pe_slice sl_str (pv 3) po_none (po_some (pe_un un_neg pe_int))) (pe_ix ix_str (pv 2) (pe_op op_mod (pe_callTy call_int1 (by rfl) T.int (by decide +kernel) (pa_cons (pe_op op_add (pe_bm PySem.F.plainAttrs_str PySem.F.slot_str_index PySem.F.type_str_index mt_sindex (pv 2) (pa_cons (pe_ix ix_str (pv 3) (pe_un un_neg pe_int) (fun _ _ => rfl)) pa_nil)) pe_int) pa_nil)) pe_int) (fun _ _ => rfl)))))
          pss_nil)))
      (pss_one (ps_ret (pv 3)))))), ?_⟩
    show (_ : TS) _ [some _, some _, none, none, none] _
    try dsimp only [cxOf, Cx.nox]
    walk_at "go"
    refine r_mid (fun σ' H' => ∃ s u, σ' = [some (V.ref b.a), some (V.ref t), some (V.str abcS), some (V.str s), u] ∧ NmS s ∧ BagAt K H' b ∧ Ext [b.a] H H') ?_ ?_
    · walk_at "go"
      refine k_draw hb (by omega) (by decide) fun y H1 y0 y1 b1 n1 => ?_
      walk_at "go"
      refine r_dec (fun h1 => ?_) (fun h1 => ?_)
      · walk_at "go"
        rename_i p hp
        refine .inl (of_strN (ns := ["self", "all", "level", "a", "aaaaaa", "z", "end", "manner"]) (b1.new hp) lstS (b1.ne hp) (by decide) (by decide) fun x H2 hx b2 n2 => ?_)
        walk_at "go"
        exact ⟨x, _, rfl, nm8 hx, b2, n1.trans ((Ext.refl.new hp).trans n2)⟩
      · walk_at "go"
        refine r_M1 ?_
        walk_at "go"
        refine ⟨⟨_, rfl⟩, ?_⟩
        walk_at "go"
        rename_i p hp
        refine .inl (of_intN (ns := [1, 1, 2, 3, 6]) (b1.new hp) lstS (b1.ne hp) (by decide) (by decide) fun x H2 hx b2 n2 => ?_)
        have e2 : Ext [b.a] H H2 := n1.trans ((Ext.refl.new hp).trans n2)
        obtain ⟨n, rfl, n1', n6⟩ : ∃ n : Nat, x = (n : Int) ∧ 1 ≤ n ∧ n ≤ 6 := by
          simp only [List.mem_cons, List.not_mem_nil, or_false] at hx
          rcases hx with rfl | rfl | rfl | rfl | rfl
          · exact ⟨1, rfl, by decide, by decide⟩
          · exact ⟨1, rfl, by decide, by decide⟩
          · exact ⟨2, rfl, by decide, by decide⟩
          · exact ⟨3, rfl, by decide, by decide⟩
          · exact ⟨6, rfl, by decide, by decide⟩
        walk_at "go"
        refine ⟨_, rfl, by omega, by omega, fun D hD => ?_⟩
        have nbD : b.a ≠ D := b2.ne hD
        rw [Int.toNat_natCast]
        refine r_lcR (n := n) (fun i H3 => ∃ cs : List Nat, cs.length = i ∧ (∀ c ∈ cs, c ∈ abcL) ∧ H3 D = some (.lst (cs.map fun c => V.str (ch1 c))) ∧ BagAt K H3 b ∧ Ext [b.a] H2 H3) ⟨[], rfl, (fun _ z => nomatch z), upd_same, b2.new hD, Ext.refl.new hD⟩ ?_ ?_
        · rintro i H3 hi ⟨cs, hl, hc, hD3, b3, e3⟩
          walk_at "go"
          refine ⟨rfl, ?_⟩
          walk_at "go"
          refine .inr ⟨b, abcS, rfl, b3, by decide +kernel, by decide +kernel, fun c H4 hc4 b4 n4 => ?_⟩
          have hc4' : c ∈ abcL := by rw [abc_is] at hc4; simpa using hc4
          have hD4 := n4 _ _ hD3 fun z => nbD (List.mem_singleton.mp z).symm
          refine ⟨_, hD4, Nat.lt_of_le_of_lt (by rw [List.length_map]; omega : _ ≤ 6) (by decide), cs ++ [c], by rw [List.length_append, hl]; rfl, fun d hd => ?_, ?_, b2.own hD b4, ?_⟩
          · rcases List.mem_append.mp hd with hd | hd
            · exact hc d hd
            · rw [List.mem_singleton.mp hd]; exact hc4'
          · rw [upd_same, List.map_append]; rfl
          · exact (e3.trans n4).own hD
        · rintro H3 ⟨cs, hl, hc, hD3, b3, e3⟩
          walk_at "go"
          have hch : (cs.map fun c => V.str (ch1 c)) = (cs.map ch1).map V.str := by rw [List.map_map]; rfl
          have h16 : ((cs.map ch1).map (·.length)).sum = cs.length := by
            rw [List.map_map]
            have : ((fun x : Str => x.length) ∘ ch1) = fun _ => 1 := rfl
            rw [this]
            exact ones cs
          refine ⟨_, D, cs.map ch1, rfl, rfl, .inl (.inl (.inl (by rw [← hch]; exact hD3))), ?_, ?_⟩
          · rw [h16, show (Str.ofString "").length = 0 by decide +kernel]
            omega
          · rw [join_ch]
            walk_at "go"
            exact ⟨_, _, rfl, nmCh (by omega) (by omega) hc, b3, e2.trans e3⟩
    · rintro σ' H1 ⟨s, u, rfl, hs, b1, e1⟩
      walk_at "go"
      refine r_for ?_
      walk_at "go"
      refine ⟨_, rfl, by decide, by decide, ?_⟩
      refine r_loopR (n := 26) (fun i σ H2 => ∃ s u, σ = [some (V.ref b.a), some (V.ref t), some (V.str abcS), some (V.str s), u] ∧ NmS s ∧ BagAt K H2 b ∧ Ext [b.a] H H2) ⟨s, u, rfl, hs, b1, e1⟩ ?_ ?_
      · clear hs b1 e1
        rintro i σ H2 hi ⟨s, u, rfl, hs, b2, e2⟩
        have ht2 : SqL K H2 t (ts.map V.str) := lstX e2 ht fun z => hne (List.mem_singleton.mp z).symm
        walk_at "go"
        refine r_in (.inl ht2) rfl (by simp [flatV]) ?_
        cases hin : inV (V.str s) (ts.map V.str) with
        | false =>
          walk_at "run"
          exact ⟨s, _, rfl, hs, b2, e2⟩
        | true =>
          walk_at "run"
          have l1 := hs.l1
          have l6 := hs.l6
          have s6 : s.length ≤ sizeLine := Nat.le_trans l6 (by decide)
          refine ⟨s, rfl, s6, ?_⟩
          walk_at "go"
          obtain ⟨c, hc, hat⟩ := at_last l1
          obtain ⟨j, rest, ho, hj⟩ := abc_at (hs.low c hc)
          refine ⟨rfl, ?_⟩
          walk_at "go"
          refine r_ixS s6 hat ?_
          walk_at "go"
          refine ⟨abcS, ch1 c, j, rest, rfl, rfl, ho, ?_⟩
          walk_at "go"
          obtain ⟨d, hd, hdt⟩ := at_str (z := abcS) (i := ((j + 1) % 26)) (by have : abcS.length = 26 := by decide +kernel
                                                                              omega)
          rw [show (((j : Int) + 1) % 26) = (((j + 1) % 26 : Nat) : Int) by omega]
          refine r_ixS (by decide +kernel) hdt ?_
          have hd' : d ∈ abcL := by rw [abc_is] at hd; simpa using hd
          have nt := nmTurn hs hd'
          refine ⟨_, _, rfl, rfl, Nat.le_trans (m := 12) ?_ (by decide), ?_⟩
          · have h1 := cutS_length s none (some (-1))
            have h2 : (ch1 d).length = 1 := rfl
            omega
          · walk_at "go"
            exact ⟨_, _, rfl, nt, b2, e2⟩
      · rintro σ H2 ⟨s, u, rfl, hs, b2, e2⟩
        walk_at "go"
        exact k s H2 hs b2 e2
end
end Yk

set_option maxHeartbeats 8000000
namespace Yk
open PySem PySem.Spec PyProof.Rows L2

local macro_rules | `(tactic| walk_at "st") => `(tactic| first
  | with_reducible refine' r_tAt ?_
  | ((with_reducible refine' r_fld ?h1 ?h2 ?h3); (case h1 => first | assumption | exact upd_same); (case h2 => first | walk_at "lk" | rfl))
  | with_reducible refine' r_sAt ?_
  | ((with_reducible refine' r_putU ?h1 ?h2); (case h1 => (repeat refine putF_lt ?_); decide))
  | ((with_reducible refine' r_put ?h1 ?h2 ?h3); (case h1 => first | assumption | exact upd_same); (case h2 => (repeat refine putF_lt ?_); decide))
  | with_reducible refine' r_tMt ?_
  | ((with_reducible refine' r_met ?h1 ?h2 ?h3); (case h1 => first | assumption | exact upd_same); (case h2 => first | walk_at "lk" | rfl))
  | with_reducible refine' r_tCr ?_
  | with_reducible refine' r_tCrK ?_
  | with_reducible refine' r_chain ?_)
local macro_rules | `(tactic| walk_at "st") => `(tactic| first
  | with_reducible refine' r_dget ?_
  | with_reducible refine' r_dc ?_
  | with_reducible refine' r_iVals ?_
  | with_reducible refine' r_dnotin ?_
  | with_reducible refine' r_din ?_
  | with_reducible refine' r_iItems ?_
  | with_reducible refine' r_iKeysT ?_
  | with_reducible refine' r_tget1 ?_
  | with_reducible refine' r_tget2 ?_
  | with_reducible refine' r_dput ?_
  | with_reducible refine' r_tPr ?_
  | ((with_reducible refine' r_prp2 ?h1 ?h2); (case h1 => first | assumption | exact upd_same))
  | with_reducible refine' r_par3 ?_
  | ((with_reducible refine' r_dnT ?_); (intro np hnp))
  | ((with_reducible refine' r_dnK ?_); (intro np hnp)))
/-! Rows of flows that the law draws: amounts and wishes. -/
theorem mk_den {n : Int} {d : Nat} (h : 0 < d) : (mkRat n d).den ≤ d := by
  have e : (mkRat n d).den ∣ d := by
    rw [Rat.den_mkRat, if_neg (by omega)]
    exact Nat.div_dvd_of_dvd (Nat.gcd_dvd_left _ _)
  exact Nat.le_of_dvd h e
theorem In.sm {D M : Nat} {q : Rat} (h : In D M q) (hM : M ≤ 1000) (hd : q.den ≤ 12) : SmQ q := ⟨h.nn, Rat.le_trans h.le (by have := natQ hM; exact this), hd⟩
theorem in30z {M : Nat} {q : Rat} (h : In 30 M q) (hM : M ≤ 2 ^ 400) : Sz 4000 q := szG h (by decide) (Nat.le_trans (by decide : 30 ≤ 2 ^ 5) (Nat.pow_le_pow_right (by decide) (by decide))) hM
theorem z1000 : (1000 : Nat) ≤ 2 ^ 400 := Nat.le_trans (by decide : 1000 ≤ 2 ^ 10) (Nat.pow_le_pow_right (by decide) (by decide))
def spSome5 (K : PySem.W.Frag) : Sp := fun vs H Q _ => ∃ (b : Bag) (M : Nat), vs = [.ref b.a, .int (M : Int)] ∧ BagAt K H b ∧ M ≤ 2 ^ 60 ∧ ∀ v q H', Am K H' v q → In 30 M q → q.den ≤ 5 → BagAt K H' b → Ext [b.a] H H' → Q v H'
theorem k_some5 {K : PySem.W.Frag} {H : Hp} {b : Bag} {M : Nat} {Q : VK} {E : XK} {z : Int} (hz : z = (M : Int)) (hb : BagAt K H b) (hM : M ≤ 1000) (k : ∀ v q H', Am K H' v q → In 30 M q → q.den ≤ 5 → BagAt K H' b → Ext [b.a] H H' → Q v H') : spSome5 K [.ref b.a, .int z] H Q E :=
  ⟨b, M, by rw [hz], hb, Nat.le_trans hM (by decide), k⟩
theorem k_part {K : PySem.W.Frag} {H : Hp} {b : Bag} {v : V} {q : Rat} {Q : VK} {E : XK} (hb : BagAt K H b) (hv : Am K H v q) (h0 : 0 ≤ q) (hz : Sz 4000 q) (k : ∀ u r H', Am K H' u r → PartQ q r → BagAt K H' b → Ext [b.a] H H' → Q u H') : spPart K [.ref b.a, v] H Q E := ⟨b, v, q, rfl, hb, hv, h0, hz, k⟩
theorem in_gmax {D M : Nat} {p q : Rat} (h : In D M p) (g : In D M q) : In D M (gmax p q) := by unfold gmax; split <;> assumption
theorem in_lmin {D M : Nat} {p q : Rat} (h : In D M p) (g : In D M q) : In D M (lmin p q) := by unfold lmin; split <;> assumption
theorem rest_eq {p q : Rat} (h : q ≤ p) : restQ p q = p - q := by unfold restQ; grind
theorem inz {D M : Nat} {q : Rat} (h : In D M q) (h0 : 0 < D) (hD : D ≤ 2 ^ 64) (hM : M ≤ 2 ^ 64) : Sz 4000 q := szG h h0 (Nat.le_trans hD (Nat.pow_le_pow_right (by decide) (by decide))) (Nat.le_trans hM (Nat.pow_le_pow_right (by decide) (by decide)))
/-- d[k], k a text -/
theorem r_getS {d : Addr} {kvs : List (Key × V)} {s : Str} {v : V} {H : Hp} {R : V → Prop} (h1 : H d = some (.dK kvs)) (h2 : valV kvs (.inr s) = some v) (h : R v) : ∃ a v', V.ref d = V.ref a ∧ DGet H a (V.str s) (some v') ∧ R v' := ⟨d, v, rfl, .inl ⟨kvs, .inr s, .inl h1, rfl, h2.symm⟩, h⟩
theorem r_putS {d : Addr} {kvs : List (Key × V)} {s : Str} {v : V} {H : Hp} {R : Hp → Prop} (h1 : H d = some (.dK kvs)) (hl : kvs.length < 1000) (h : R (upd H d (.dK (putK kvs (.inr s) v)))) : ∃ a H4, V.ref d = V.ref a ∧ DPut H a (V.str s) v H4 ∧ R H4 :=
  ⟨d, _, rfl, DPut.k (k := .inr s) h1 (Nat.lt_trans hl (by decide)), h⟩
theorem bag_ne_dk {K : PySem.W.Frag} {H : Hp} {b : Bag} {d : Addr} {kvs : List (Key × V)} (hb : BagAt K H b) (hd : H d = some (.dK kvs)) : d ≠ b.a := fun z => by
  obtain ⟨l, hl⟩ := hb.lst
  rw [z, hl] at hd
  cases hd
section
variable {P : Program} {w : World} {K : PySem.W.Frag} {mg : Str → Option Value} {base : Heap} {f : Addr} {fd : FuncData}
theorem g_law_some (F : FunD K "_law_some" "_law_some" (defArgs s_law_some) (defBody s_law_some) (defScope s_law_some) [] [] f fd) (hm : mg "_law_some" = some (.ref f)) (T : Bt mg) (F_law_draw : Fn P w K mg base 1 "_law_draw" (spDraw K)) (F_law_of : Fn P w K mg base 2 "_law_of" (spOf K)) (F_law_amount : Fn P w K mg base 1 "_law_amount" (spPair K)) : Fn P w K mg base 3 "_law_some" (spSome5 K) := by
  refine fn_def F hm c_law_some (fun vs H Q E h => ?_) (fun _ _ _ _ _ _ us hl => match us, hl with | [_, _], _ => rfl) (fun cdv A outer s H vs Q E hr h => ?_)
  · obtain ⟨b, M, rfl, _⟩ := h
    rfl
  · obtain ⟨b, M, rfl, hb, hM, k⟩ := h
    have nd := c_law_some.nd
    refine ⟨_, (pss_cons (ps_set (i := 2) nd rfl (by first | exact Or.inl rfl | exact Or.inr rfl) (pe_fn F_law_of (hr.mono (by decide)) (pa_cons (pv 0) (pa_cons (pe_lst (pa_cons pe_int (pa_cons pe_int (pa_cons pe_int (pa_cons pe_int (pa_cons pe_int (pa_cons pe_int (pa_cons pe_int (pa_cons pe_int pa_nil))))))))) pa_nil))))
      (pss_one (ps_ret (pe_fn F_law_amount (hr.mono (by decide)) (pa_cons (pe_fn F_law_draw (hr.mono (by decide)) (pa_cons (pv 0) (pa_cons (pe_op op_add (pe_op op_mulW (pv 1) (pv 2)) pe_int) pa_nil))) (pa_cons (pv 2) pa_nil)))))), ?_⟩
    show (_ : TS) _ [some _, some _, none] _
    try dsimp only [cxOf, Cx.nox]
    walk_at "go"
    rename_i p hp
    refine of_intN (ns := [1, 1, 2, 1, 3, 1, 2, 5]) (hb.new hp) lstS (hb.ne hp) (Nat.zero_lt_succ _) (show 8 ≤ 4000 by decide) fun x H1 hx b1 n1 => ?_
    obtain ⟨d, rfl, d0, d5, dd⟩ : ∃ d : Nat, x = (d : Int) ∧ 0 < d ∧ d ≤ 5 ∧ d ∣ 30 := by
      simp only [List.mem_cons, List.not_mem_nil, or_false] at hx
      rcases hx with rfl | rfl | rfl | rfl | rfl | rfl | rfl | rfl
      · exact ⟨1, rfl, by decide, by decide, by decide⟩
      · exact ⟨1, rfl, by decide, by decide, by decide⟩
      · exact ⟨2, rfl, by decide, by decide, by decide⟩
      · exact ⟨1, rfl, by decide, by decide, by decide⟩
      · exact ⟨3, rfl, by decide, by decide, by decide⟩
      · exact ⟨1, rfl, by decide, by decide, by decide⟩
      · exact ⟨2, rfl, by decide, by decide, by decide⟩
      · exact ⟨5, rfl, by decide, by decide, by decide⟩
    have e1 : Ext [b.a] H H1 := Ext.trans (Ext.refl.new hp) n1
    have h60 : M ≤ 1152921504606846976 := hM
    have mw : CMulW (M : Int) (d : Int) := cmul (m := 61) (n := 4) (Nat.lt_of_le_of_lt (by omega : (M : Int).natAbs ≤ 1152921504606846976) (by decide)) (Nat.lt_of_le_of_lt (by omega : (d : Int).natAbs ≤ 5) (by decide)) (by decide) (by decide) (by decide)
    have hmd : M * d ≤ 1152921504606846976 * 5 := Nat.mul_le_mul h60 d5
    walk_at "go"
    have e2 : (M : Int) * (d : Int) = ((M * d : Nat) : Int) := by rw [Int.natCast_mul]
    rw [e2]
    refine k_draw b1 (by omega) (Int.lt_of_le_of_lt (by omega : ((M * d : Nat) : Int) + 1 ≤ 1152921504606846976 * 5 + 1) (by decide)) fun y H2 y0 y1 b2 n2 => ?_
    walk_at "go"
    refine ⟨y.toNat, d, by rw [Int.toNat_of_nonneg y0], d0, Nat.lt_of_le_of_lt (by omega : y.toNat ≤ 1152921504606846976 * 5) (Nat.lt_of_lt_of_le (by decide) (Nat.pow_le_pow_right (by decide) (by decide : 100 ≤ 8900))), Nat.lt_of_le_of_lt d5 (Nat.lt_of_lt_of_le (by decide) (Nat.pow_le_pow_right (by decide) (by decide : 100 ≤ 8900))), fun v H3 e3 a3 => ?_⟩
    exact k v _ H3 a3 (In.frac d0 dd (by omega)) (Nat.le_trans (mk_den d0) d5) (b2.x0 e3) (e1.trans (n2.trans (e3.mono fun _ z => nomatch z)))
/-- an amount not below another one -/
def spAbove (K : PySem.W.Frag) : Sp := fun vs H Q _ => ∃ (b : Bag) (v : V) (q : Rat), vs = [.ref b.a, v] ∧ BagAt K H b ∧ Am K H v q ∧ In 30 1000 q ∧ q.den ≤ 12 ∧ ∀ u r H', Am K H' u r → In 30 1000 r → r.den ≤ 12 → q ≤ r → BagAt K H' b → Ext [b.a] H H' → Q u H'
abbrev s_law_above : Stmt := top 65
theorem c_law_above : FnScope ["_law_bag_here", "_law_base", "_law_more"] ["_law_bag_here", "_law_base"] (defScope s_law_above) := ⟨rfl, rfl, rfl, by decide +kernel, rfl, by decide +kernel, by decide +kernel⟩
theorem f_law_above (F : FunD K "_law_above" "_law_above" (defArgs s_law_above) (defBody s_law_above) (defScope s_law_above) [] [] f fd) (hm : mg "_law_above" = some (.ref f)) (T : Bt mg) (F_law_draw : Fn P w K mg base 1 "_law_draw" (spDraw K)) (G_law_some : Fn P w K mg base 3 "_law_some" (spSome5 K)) (F_law_sum : Fn P w K mg base 2 "_law_sum" (sp2 (fun _ _ => True) (· + ·) K)) (F_law_less : Fn P w K mg base 1 "_law_less" (spLess K)) : Fn P w K mg base 4 "_law_above" (spAbove K) := by
  refine fn_def F hm c_law_above (fun vs H Q E h => ?_) (fun _ _ _ _ _ _ us hl => match us, hl with | [_, _], _ => rfl) (fun cdv A outer s H vs Q E hr h => ?_)
  · obtain ⟨b, v, q, rfl, _⟩ := h
    rfl
  · obtain ⟨b, v, q, rfl, hb, hv, iq, dq, k⟩ := h
    have nd := c_law_above.nd
    refine ⟨_, (pss_cons (ps_set (i := 2) nd rfl (by first | exact Or.inl rfl | exact Or.inr rfl) (pe_fn F_law_sum (hr.mono (by decide)) (pa_cons (pv 1) (pa_cons (pe_fn G_law_some (hr.mono (by decide)) (pa_cons (pv 0) (pa_cons pe_int pa_nil))) pa_nil))))
      (pss_cons (ps_if (pt_cmpR op_eq (pe_fn F_law_draw (hr.mono (by decide)) (pa_cons (pv 0) (pa_cons pe_int pa_nil))) pe_int (nomark _))
        (pss_one (ps_ret (pv 1)))
        pss_nil)
      (pss_one (ps_ret (pe_ifExp (PW.pt (pw_and (pt_cmpR op_le (pe_ix ix_tup (pv 2) pe_int (fun _ _ => rfl)) pe_int (nomark _)) (pw_and1 (pt_not (pt_val (pe_fn F_law_less (hr.mono (by decide)) (pa_cons (pe_tup (pa_cons pe_int (pa_cons pe_int pa_nil))) (pa_cons (pv 2) pa_nil)))))))) (pv 2) (pe_tup (pa_cons pe_int (pa_cons pe_int pa_nil)))))))), ?_⟩
    show (_ : TS) _ [some _, some _, none] _
    try dsimp only [cxOf, Cx.nox]
    walk_at "go"
    refine k_some5 (M := 9) rfl hb (by decide) fun u r H1 ha ir dr b1 n1 => ?_
    have hv1 := hv.b hb n1
    walk_at "go"
    refine k_two hv1 ha (in30z iq z1000) (in30z ir (Nat.le_trans (by decide) z1000)) iq.nn ir.nn trivial fun m H2 e2 hm => ?_
    have im := iq.add ir
    have b2 := b1.x0 e2
    have n2 := n1.trans e2.of0
    walk_at "go"
    refine k_draw b2 (by omega) (by decide) fun y H3 y0 y1 b3 n3 => ?_
    have hm3 := hm.b b2 n3
    have hv3 := (hv1.x0 e2).b b2 n3
    have e3 := n2.trans n3
    walk_at "go"
    refine r_dec (fun _ => ?_) (fun _ => ?_)
    · walk_at "go"
      exact k v q H3 hv3 iq dq Rat.le_refl b3 e3
    · walk_at "go"
      obtain ⟨am, rfl, hsq⟩ := id hm3
      walk_at "go"
      have kT : ∀ p (hp : H3 p = none), Q (.ref p) (upd H3 p (.tup [.int 1000, .int 1])) := fun p hp =>
        k (.ref p) 1000 _ ⟨p, rfl, tupS⟩ (In.nat (Nat.le_refl 1000)) (by decide +kernel) (Rat.le_trans iq.le (by norm_cast)) (b3.x0 (Ext.refl.new hp)) (e3.trans (Ext.refl.new hp))
      refine r_dec (fun hd => ?_) (fun hd => ?_)
      · walk_at "go"
        rename_i p hp
        have e4 : Ext [] H3 (upd H3 p (.tup [.int 1000, .int 1])) := Ext.refl.new hp
        refine ⟨.ref p, .ref am, 1000, q + r, rfl, ⟨p, rfl, tupS⟩, hm3.x0 e4, ⟨by decide +kernel, by decide +kernel⟩, in30z im (Nat.le_trans (by decide) (Nat.pow_le_pow_right (by decide) (by decide : 20 ≤ 400))), ?_⟩
        walk_at "go"
        refine r_ndec (fun hl => ?_) (fun hl => ?_)
        · walk_at "go"
          refine k (.ref am) (q + r) _ (hm3.x0 e4) (im.of_le ?_) (by omega) ?_ (b3.x0 e4) (e3.trans e4.of0)
          · have := Rat.not_lt.mp hl
            norm_cast
          · have := ir.nn
            grind
        · walk_at "go"
          rename_i p2 hp2
          have e5 : Ext [] H3 (upd (upd H3 p (.tup [.int 1000, .int 1])) p2 (.tup [.int 1000, .int 1])) := e4.new hp2
          exact k (.ref p2) 1000 _ ⟨p2, rfl, tupS⟩ (In.nat (Nat.le_refl 1000)) (by decide +kernel) (Rat.le_trans iq.le (by norm_cast)) (b3.x0 e5) (e3.trans e5.of0)
      · walk_at "run"
        rename_i p hp
        exact kT p hp
/-- a wish of a flow with the least g and the greatest G -/
def spWish (K : PySem.W.Frag) : Sp := fun vs H Q _ => ∃ (b : Bag) (d : Addr) (kvs : List (Key × V)) (vg vG : V) (g G : Rat), vs = [.ref b.a, .ref d] ∧ BagAt K H b ∧ H d = some (.dK kvs) ∧ valV kvs (.inr "g") = some vg ∧ valV kvs (.inr "G") = some vG ∧ Am K H vg g ∧ Am K H vG G ∧ In 30 1000 g ∧ In 30 1000 G ∧ g ≤ G ∧
  ∀ v man H', ManIs K H' v man → (∀ p, man = some p → PairOk p ∧ p.1 ≤ g ∧ p.2 ≤ G) → BagAt K H' b → Ext [b.a] H H' → Q v H'
abbrev s_law_wish : Stmt := top 66
theorem c_law_wish : FnScope ["_law_bag_here", "_law_row", "_law_base"] ["_law_bag_here", "_law_row"] (defScope s_law_wish) := ⟨rfl, rfl, rfl, by decide +kernel, rfl, by decide +kernel, by decide +kernel⟩
theorem f_law_wish (F : FunD K "_law_wish" "_law_wish" (defArgs s_law_wish) (defBody s_law_wish) (defScope s_law_wish) [] [] f fd) (hm : mg "_law_wish" = some (.ref f)) (T : Bt mg) (F_law_draw : Fn P w K mg base 1 "_law_draw" (spDraw K)) (G_law_some : Fn P w K mg base 3 "_law_some" (spSome5 K)) (F_law_part : Fn P w K mg base 3 "_law_part" (spPart K)) (F_law_sum : Fn P w K mg base 2 "_law_sum" (sp2 (fun _ _ => True) (· + ·) K)) (F_law_rest : Fn P w K mg base 2 "_law_rest" (sp2 (fun _ _ => True) restQ K)) (F_law_min : Fn P w K mg base 2 "_law_min" (sp2 (fun _ _ => True) lmin K)) (F_law_max : Fn P w K mg base 2 "_law_max" (sp2 (fun _ _ => True) gmax K)) : Fn P w K mg base 4 "_law_wish" (spWish K) := by
  refine fn_def F hm c_law_wish (fun vs H Q E h => ?_) (fun _ _ _ _ _ _ us hl => match us, hl with | [_, _], _ => rfl) (fun cdv A outer s H vs Q E hr h => ?_)
  · obtain ⟨b, d, kvs, vg, vG, g, G, rfl, _⟩ := h
    rfl
  · obtain ⟨b, d, kvs, vg, vG, g, G, rfl, hb, hd, lg, lG, ag, aG, ig, iG, hgG, k⟩ := h
    have nd := c_law_wish.nd
    refine ⟨_, (pss_cons (ps_if (pt_cmpR op_eq (pe_fn F_law_draw (hr.mono (by decide)) (pa_cons (pv 0) (pa_cons pe_int pa_nil))) pe_int (nomark _))
        (pss_one (ps_ret (pe_tup pa_nil)))
        pss_nil)
      (pss_cons (ps_set (i := 2) nd rfl (by first | exact Or.inl rfl | exact Or.inr rfl) (pe_fn F_law_part (hr.mono (by decide)) (pa_cons (pv 0) (pa_cons (pe_dget (hu_of hr) (pv 1) pe_str (fun _ _ => rfl)) pa_nil))))
      (pss_cons (ps_if (pt_cmpR op_eq (pe_fn F_law_draw (hr.mono (by decide)) (pa_cons (pv 0) (pa_cons pe_int pa_nil))) pe_int (nomark _))
        (pss_one (ps_ret (pe_tup (pa_cons (pv 2) (pa_cons (pe_fn F_law_max (hr.mono (by decide)) (pa_cons (pv 2) (pa_cons (pe_fn F_law_min (hr.mono (by decide)) (pa_cons (pe_dget (hu_of hr) (pv 1) pe_str (fun _ _ => rfl)) (pa_cons (pe_fn G_law_some (hr.mono (by decide)) (pa_cons (pv 0) (pa_cons pe_int pa_nil))) pa_nil))) pa_nil))) pa_nil)))))
        pss_nil)
      (pss_one (ps_ret (pe_tup (pa_cons (pv 2) (pa_cons (pe_fn F_law_sum (hr.mono (by decide)) (pa_cons (pv 2) (pa_cons (pe_fn F_law_part (hr.mono (by decide)) (pa_cons (pv 0) (pa_cons (pe_fn F_law_rest (hr.mono (by decide)) (pa_cons (pe_dget (hu_of hr) (pv 1) pe_str (fun _ _ => rfl)) (pa_cons (pv 2) pa_nil))) pa_nil))) pa_nil))) pa_nil)))))))), ?_⟩
    show (_ : TS) _ [some _, some _, none] _
    try dsimp only [cxOf, Cx.nox]
    have dne := bag_ne_dk hb hd
    have kd : ∀ {H1}, Ext [b.a] H H1 → H1 d = some (.dK kvs) := fun e => e _ _ hd fun z => dne (List.mem_singleton.mp z)
    walk_at "go"
    refine k_draw hb (by omega) (by decide) fun y H1 y0 y1 b1 n1 => ?_
    walk_at "go"
    refine r_dec (fun _ => ?_) (fun _ => ?_)
    · walk_at "go"
      rename_i p hp
      exact k (.ref p) none _ ⟨p, rfl, tupS⟩ (fun p z => nomatch z) (b1.x0 (Ext.refl.new hp)) (n1.trans (Ext.refl.new hp))
    · walk_at "go"
      refine r_getS (kd n1) lg ?_
      walk_at "go"
      refine k_part b1 (ag.b hb n1) ig.nn (in30z ig z1000) fun u r H2 au pq b2 n2 => ?_
      obtain ⟨r0, rg⟩ := pq.le ig.nn
      have ir : In (30 * 30) 1000 r := pq.in_ ig
      have e2 := n1.trans n2
      walk_at "go"
      refine k_draw b2 (by omega) (by decide) fun y H3 y0 y1 b3 n3 => ?_
      have e3 := e2.trans n3
      have au3 := au.b b2 n3
      have aG3 := aG.b hb e3
      have iG9 : In (30 * 30) 1000 G := iG.up (by decide)
      walk_at "go"
      refine r_dec (fun _ => ?_) (fun _ => ?_)
      · walk_at "go"
        refine r_getS (kd e3) lG ?_
        walk_at "go"
        refine k_some5 (M := 6) rfl b3 (by decide) fun us q H4 as_ is_ ds b4 n4 => ?_
        have i9 : In (30 * 30) 1000 q := (is_.most (by decide)).up (by decide)
        walk_at "go"
        refine k_two (aG3.b b3 n4) as_ (in30z iG z1000) (in30z is_ (Nat.le_trans (by decide) z1000)) iG.nn is_.nn trivial fun vm H5 e5 am => ?_
        have im := in_lmin iG9 i9
        walk_at "go"
        refine k_two ((au3.b b3 n4).x0 e5) am (inz ir (by decide) (by decide) (by decide)) (inz im (by decide) (by decide) (by decide)) r0 im.nn trivial fun vx H6 e6 ax => ?_
        have ix := in_gmax ir im
        walk_at "go"
        rename_i p hp
        have e7 : Ext [] H6 (upd H6 p (.tup [u, vx])) := Ext.refl.new hp
        have e46 : Ext [] H4 (upd H6 p (.tup [u, vx])) := e5.trans (e6.trans e7)
        refine k (.ref p) (some (r, gmax r (lmin G q))) _ ⟨p, u, vx, rfl, tupS, (((au3.b b3 n4).x0 e5).x0 e6).x0 e7, ax.x0 e7⟩ (fun p z => ?_) (b4.x0 e46) (e3.trans (n4.trans e46.of0))
        cases z
        refine ⟨⟨r0, ?_, inz ir (by decide) (by decide) (by decide), inz ix (by decide) (by decide) (by decide)⟩, rg, ?_⟩
        · show r ≤ gmax r (lmin G q)
          unfold gmax
          split <;> grind
        · show gmax r (lmin G q) ≤ G
          have := lmin_le1 G q
          unfold gmax
          split <;> grind
      · walk_at "go"
        refine r_getS (kd e3) lG ?_
        walk_at "go"
        have hrG : r ≤ G := Rat.le_trans rg hgG
        refine k_two aG3 au3 (in30z iG z1000) (inz ir (by decide) (by decide) (by decide)) iG.nn r0 trivial fun vr H4 e4 ar => ?_
        rw [rest_eq hrG] at ar
        have is_ : In (30 * 30) 1000 (G - r) := iG9.sub ir hrG
        have b4 := b3.x0 e4
        walk_at "go"
        refine k_part b4 ar is_.nn (inz is_ (by decide) (by decide) (by decide)) fun vp q H5 ap pq5 b5 n5 => ?_
        obtain ⟨q0, qs⟩ := pq5.le is_.nn
        have iq : In (30 * 30 * 30) 1000 q := pq5.in_ is_
        have au5 := (au3.x0 e4).b b4 n5
        walk_at "go"
        refine k_two au5 ap (inz ir (by decide) (by decide) (by decide)) (inz iq (by decide) (by decide) (by decide)) r0 q0 trivial fun vx H6 e6 ax => ?_
        have ix : In (30 * 30 * 30) 2000 (r + q) := (ir.up (by decide)).add iq
        walk_at "go"
        rename_i p hp
        have e7 : Ext [] H6 (upd H6 p (.tup [u, vx])) := Ext.refl.new hp
        have e57 : Ext [] H5 (upd H6 p (.tup [u, vx])) := e6.trans e7
        refine k (.ref p) (some (r, r + q)) _ ⟨p, u, vx, rfl, tupS, (au5.x0 e6).x0 e7, ax.x0 e7⟩ (fun p z => ?_) (b5.x0 e57) (e3.trans (e4.of0.trans (n5.trans e57.of0)))
        cases z
        refine ⟨⟨r0, ?_, inz ir (by decide) (by decide) (by decide), inz ix (by decide) (by decide) (by decide)⟩, rg, ?_⟩
        · show r ≤ r + q
          grind
        · show r + q ≤ G
          grind
end
end Yk

set_option maxHeartbeats 4000000
namespace Yk
open PySem PySem.Spec PyProof.Rows L2
/-! Tables with numbers as keys: what a hop remembers. -/
section
variable {κ α : Type} [DecidableEq κ]
abbrev ND (c : List (κ × α)) : Prop := (c.map (·.1)).Nodup
theorem gv_nil {k : κ} : gv ([] : List (κ × α)) k = none := rfl
theorem gv_cons (p : κ × α) (c : List (κ × α)) (k : κ) : gv (p :: c) k = if p.1 = k then some p.2 else gv c k := by
  unfold gv
  rw [List.find?_cons]
  by_cases e : p.1 = k
  · rw [decide_eq_true e, if_pos e]; rfl
  · rw [decide_eq_false e, if_neg e]
theorem gv_any (k : κ) : ∀ c : List (κ × α), (c.any fun p => decide (p.1 = k)) = (gv c k).isSome
  | [] => rfl
  | p :: c => by
    rw [List.any_cons, gv_cons]
    by_cases e : p.1 = k
    · rw [decide_eq_true e, if_pos e]; rfl
    · rw [decide_eq_false e, if_neg e, Bool.false_or, gv_any k c]
theorem gv_map (k j : κ) (y : α) : ∀ c : List (κ × α), gv (c.map fun p => if p.1 = k then (p.1, y) else p) j = (gv c j).map fun x => if j = k then y else x
  | [] => rfl
  | p :: c => by
    rw [List.map_cons, gv_cons, gv_cons, gv_map k j y c]
    by_cases h : p.1 = k
    · rw [if_pos h]
      by_cases e : p.1 = j
      · rw [if_pos e, if_pos e, Option.map_some, if_pos (e.symm.trans h)]
      · rw [if_neg e, if_neg e]
    · rw [if_neg h]
      by_cases e : p.1 = j
      · rw [if_pos e, if_pos e, Option.map_some, if_neg (fun z => h (e.trans z))]
      · rw [if_neg e, if_neg e]
theorem gv_app (j : κ) (d : List (κ × α)) : ∀ c : List (κ × α), gv (c ++ d) j = (gv c j).or (gv d j)
  | [] => rfl
  | p :: c => by
    rw [List.cons_append, gv_cons, gv_cons, gv_app j d c]
    by_cases e : p.1 = j
    · rw [if_pos e, if_pos e]; rfl
    · rw [if_neg e, if_neg e]
theorem gp_new {c : List (κ × α)} {k : κ} (y : α) (h : gv c k = none) : gp c k y = c ++ [(k, y)] := by
  unfold gp
  rw [gv_any, h, if_neg (by simp)]
theorem gv_gp (c : List (κ × α)) (k j : κ) (y : α) : gv (gp c k y) j = if j = k then some y else gv c j := by
  unfold gp
  rw [gv_any]
  cases h : gv c k with
  | none =>
    rw [if_neg (by simp), gv_app, gv_cons]
    by_cases e : j = k
    · subst e
      rw [h, if_pos rfl, if_pos rfl]; rfl
    · rw [if_neg (fun z => e z.symm), if_neg e, gv_nil]
      cases gv c j <;> rfl
  | some x =>
    rw [if_pos (by rfl), gv_map]
    by_cases e : j = k
    · subst e
      rw [h, if_pos rfl, Option.map_some, if_pos rfl]
    · rw [if_neg e]
      cases gv c j with
      | none => rfl
      | some z => rw [Option.map_some, if_neg e]
theorem gv_none {k : κ} : ∀ {c : List (κ × α)}, gv c k = none ↔ k ∉ c.map (·.1)
  | [] => by simp [gv]
  | p :: c => by
    rw [gv_cons, List.map_cons, List.mem_cons]
    by_cases e : p.1 = k
    · rw [if_pos e]; simp [e]
    · rw [if_neg e, gv_none]
      exact ⟨fun h => by rintro (z | z); exact e z.symm; exact h z, fun h z => h (.inr z)⟩
theorem gv_iff {k : κ} {y : α} : ∀ {c : List (κ × α)}, ND c → (gv c k = some y ↔ (k, y) ∈ c)
  | [], _ => by simp [gv]
  | p :: c, h => by
    have h' := List.nodup_cons.mp (show (p.1 :: c.map (·.1)).Nodup from h)
    rw [gv_cons, List.mem_cons]
    by_cases e : p.1 = k
    · rw [if_pos e]
      constructor
      · intro z
        left
        rw [← e, ← Option.some.inj z]
      · rintro (z | z)
        · rw [← z]
        · exact absurd (by rw [e]; exact List.mem_map_of_mem (f := (·.1)) z) h'.1
    · rw [if_neg e, gv_iff h'.2]
      exact ⟨fun z => .inr z, fun z => z.resolve_left fun q => e (by rw [← q])⟩
theorem nd_gp {c : List (κ × α)} (h : ND c) (k : κ) (y : α) : ND (gp c k y) := by
  unfold gp
  rw [gv_any]
  cases e : gv c k with
  | none =>
    rw [if_neg (by simp)]
    show ((c ++ [(k, y)]).map (·.1)).Nodup
    rw [List.map_append, List.nodup_append]
    refine ⟨h, by simp, ?_⟩
    intro a ha b hb
    have := gv_none.mp e
    simp at hb
    rw [hb]
    exact fun z => this (z ▸ ha)
  | some x =>
    rw [if_pos (by rfl)]
    unfold ND
    rw [List.map_map]
    have e2 : ((·.1) ∘ fun p : κ × α => if p.1 = k then (p.1, y) else p) = (·.1) := by
      funext p
      show (if p.1 = k then (p.1, y) else p).1 = p.1
      split <;> rfl
    rw [e2]
    exact h
theorem gp_len (c : List (κ × α)) (k : κ) (y : α) : (gp c k y).length ≤ c.length + 1 := by
  unfold gp
  split
  · rw [List.length_map]; omega
  · simp
theorem gp_mem {c : List (κ × α)} {k : κ} {y : α} {p : κ × α} (h : p ∈ gp c k y) : p.2 = y ∨ p ∈ c := by
  unfold gp at h
  split at h
  · obtain ⟨q, hq, e⟩ := List.mem_map.mp h
    split at e
    · left; rw [← e]
    · right; rw [← e]; exact hq
  · rcases List.mem_append.mp h with h | h
    · exact .inr h
    · left; rw [List.mem_singleton.mp h]
theorem nd_filter {c : List (κ × α)} (h : ND c) (f : κ × α → Bool) : ND (c.filter f) := by
  have h1 := List.pairwise_map.mp h
  exact List.pairwise_map.mpr (h1.filter f)
theorem nd_pairs {c : List (κ × α)} (h : ND c) : c.Nodup := (List.pairwise_map.mp h).imp fun z q => z (by rw [q])
theorem perm_of {c c' : List (κ × α)} {f : κ → Bool} (h : ND c) (h' : ND c') (e : ∀ k, f k = true → gv c k = gv c' k) : (c.filter fun p => f p.1).Perm (c'.filter fun p => f p.1) := by
  refine (List.perm_ext_iff_of_nodup (nd_pairs (nd_filter h _)) (nd_pairs (nd_filter h' _))).mpr fun p => ?_
  rw [List.mem_filter, List.mem_filter]
  constructor
  · rintro ⟨h1, h2⟩
    exact ⟨(gv_iff (k := p.1) (y := p.2) h').mp (by rw [← e p.1 h2]; exact (gv_iff h).mpr h1), h2⟩
  · rintro ⟨h1, h2⟩
    exact ⟨(gv_iff (k := p.1) (y := p.2) h).mp (by rw [e p.1 h2]; exact (gv_iff h').mpr h1), h2⟩
theorem gv_filter (f : κ → Bool) (k : κ) : ∀ c : List (κ × α), gv (c.filter fun p => f p.1) k = if f k = true then gv c k else none
  | [] => by simp [gv]
  | p :: c => by
    rw [List.filter_cons]
    by_cases e : p.1 = k
    · by_cases hf : f p.1 = true
      · rw [if_pos hf, gv_cons, if_pos e, ← e, if_pos hf, gv_cons, if_pos rfl]
      · rw [if_neg hf, gv_filter f k c, ← e, if_neg hf, if_neg hf]
    · by_cases hf : f p.1 = true
      · rw [if_pos hf, gv_cons, if_neg e, gv_filter f k c, gv_cons, if_neg e]
      · rw [if_neg hf, gv_filter f k c, gv_cons, if_neg e]
end
def win (c : List (Int × Rat)) (lo hi : Int) : List Rat := (c.filter fun p => decide (lo < p.1) && decide (p.1 < hi)).map (·.2)
theorem win_perm {c c' : List (Int × Rat)} {lo hi : Int} (h : ND c) (h' : ND c') (e : ∀ k, lo < k → gv c k = gv c' k) : (win c lo hi).Perm (win c' lo hi) :=
  (perm_of (f := fun k => decide (lo < k) && decide (k < hi)) h h' fun k hk => e k (by simp at hk; exact hk.1)).map _
/-- a dict with numbers as keys against a table -/
inductive IT {α : Type} (R : V → α → Prop) : List (Key × V) → List (Int × α) → Prop
  | nil : IT R [] []
  | cons {k : Int} {v : V} {y : α} {l : List (Key × V)} {c : List (Int × α)} : R v y → IT R l c → IT R ((.inl k, v) :: l) ((k, y) :: c)
section
variable {α : Type} {R R' : V → α → Prop} {l : List (Key × V)} {c : List (Int × α)} {k : Int} {v : V} {y : α}
theorem IT.imp (f : ∀ v y, R v y → R' v y) (h : IT R l c) : IT R' l c := by
  induction h with
  | nil => exact .nil
  | cons a _ ih => exact .cons (f _ _ a) ih
theorem IT.len (h : IT R l c) : l.length = c.length := by
  induction h with
  | nil => rfl
  | cons a _ ih => simp [ih]
theorem IT.get (h : IT R l c) : ∀ {i : Nat} {k : Key} {x : V}, l[i]? = some (k, x) → ∃ n y, k = .inl n ∧ c[i]? = some (n, y) ∧ R x y := by
  induction h with
  | nil => intro i k x z; simp at z
  | @cons k' v' y' l c a _ ih =>
    intro i k x z
    cases i with
    | zero => cases z; exact ⟨k', y', rfl, rfl, a⟩
    | succ i => exact ih (i := i) (by simpa using z)
theorem IT.val (h : IT R l c) (k : Int) : (valV l (.inl k) = none ∧ gv c k = none) ∨ ∃ v y, valV l (.inl k) = some v ∧ gv c k = some y ∧ R v y := by
  induction h with
  | nil => exact .inl ⟨rfl, rfl⟩
  | @cons k' v y l c a _ ih =>
    rw [gv_cons]
    by_cases e : k' = k
    · subst e
      exact .inr ⟨v, y, valV_pos rfl, by rw [if_pos rfl], a⟩
    · rw [valV_neg (p := ((.inl k' : Key), v)) (fun z => e (Sum.inl.inj z)), if_neg e]
      exact ih
theorem IT.any (h : IT R l c) (k : Int) : (l.any fun p => decide (p.1 = .inl k)) = (c.any fun p => decide (p.1 = k)) := by
  rw [valV_any, gv_any]
  rcases h.val k with ⟨a, b⟩ | ⟨v, y, a, b, _⟩ <;> rw [a, b] <;> rfl
theorem IT.repl (h : IT R l c) (a : R v y) : IT R (l.map fun kv => if kv.1 = .inl k then (kv.1, v) else kv) (c.map fun p => if p.1 = k then (p.1, y) else p) := by
  induction h with
  | nil => exact .nil
  | @cons k' v' y' l c b _ ih =>
    rw [List.map_cons, List.map_cons]
    by_cases e : k' = k
    · subst e
      rw [if_pos rfl, if_pos rfl]; exact .cons a ih
    · rw [if_neg (fun z => e (Sum.inl.inj z)), if_neg e]; exact .cons b ih
theorem IT.app {l2 : List (Key × V)} {c2 : List (Int × α)} (h : IT R l c) (g : IT R l2 c2) : IT R (l ++ l2) (c ++ c2) := by
  induction h with
  | nil => exact g
  | cons b _ ih => exact .cons b ih
theorem IT.put (h : IT R l c) (a : R v y) : IT R (putK l (.inl k) v) (gp c k y) := by
  unfold putK gp
  rw [h.any k]
  split
  · exact h.repl a
  · exact h.app (.cons a .nil)
end
end Yk

set_option maxHeartbeats 16000000
namespace Yk
open PySem PySem.Spec PyProof.Rows L2

local macro_rules | `(tactic| walk_at "st") => `(tactic| first
  | with_reducible refine' r_tAt ?_
  | ((with_reducible refine' r_fld ?h1 ?h2 ?h3); (case h1 => first | assumption | exact upd_same); (case h2 => first | walk_at "lk" | rfl))
  | with_reducible refine' r_sAt ?_
  | ((with_reducible refine' r_putU ?h1 ?h2); (case h1 => (repeat refine putF_lt ?_); decide))
  | ((with_reducible refine' r_put ?h1 ?h2 ?h3); (case h1 => first | assumption | exact upd_same); (case h2 => (repeat refine putF_lt ?_); decide))
  | with_reducible refine' r_tMt ?_
  | ((with_reducible refine' r_met ?h1 ?h2 ?h3); (case h1 => first | assumption | exact upd_same); (case h2 => first | walk_at "lk" | rfl))
  | with_reducible refine' r_tCr ?_
  | with_reducible refine' r_tCrK ?_
  | with_reducible refine' r_chain ?_)
local macro_rules | `(tactic| walk_at "st") => `(tactic| first
  | with_reducible refine' r_dget ?_
  | with_reducible refine' r_dc ?_
  | with_reducible refine' r_iVals ?_
  | with_reducible refine' r_dnotin ?_
  | with_reducible refine' r_din ?_
  | with_reducible refine' r_iItems ?_
  | with_reducible refine' r_iKeysT ?_
  | with_reducible refine' r_tget1 ?_
  | with_reducible refine' r_tget2 ?_
  | with_reducible refine' r_dput ?_
  | with_reducible refine' r_tPr ?_
  | ((with_reducible refine' r_prp2 ?h1 ?h2); (case h1 => first | assumption | exact upd_same))
  | with_reducible refine' r_par3 ?_
  | ((with_reducible refine' r_dnT ?_); (intro np hnp))
  | ((with_reducible refine' r_dnK ?_); (intro np hnp)))
/-! Rows of flows that the law draws. -/
theorem ManIs.f {S : List Addr} {K : PySem.W.Frag} {H H1 : Hp} {v : V} {man : Option (Rat × Rat)} (e : Ext S H H1) (hs : NoTup H S) (h : ManIs K H v man) : ManIs K H1 v man := by
  cases man with
  | none => obtain ⟨t, rfl, h⟩ := h; exact ⟨t, rfl, tupF e h hs⟩
  | some p => obtain ⟨t, v1, v2, rfl, h, a1, a2⟩ := h; exact ⟨t, v1, v2, rfl, tupF e h hs, a1.f e hs, a2.f e hs⟩
theorem AmsF {S : List Addr} {K : PySem.W.Frag} {H H1 : Hp} {vs : List V} {qs : List Rat} (e : Ext S H H1) (hs : NoTup H S) (h : Ams K H vs qs) : Ams K H1 vs qs := ⟨h.1, fun i v q a b => (h.2 i v q a b).f e hs⟩
theorem SizeIs.f {S : List Addr} {K : PySem.W.Frag} {H H1 : Hp} {v : V} {z : SizeD} (e : Ext S H H1) (hs : NoTup H S) (h : SizeIs K H v z) : SizeIs K H1 v z := by
  cases z with
  | no => exact h
  | win q => exact ⟨h.1.f e hs, h.2⟩
  | tries n => exact h
theorem SizeIs.b {K : PySem.W.Frag} {H H1 : Hp} {b : Bag} {v : V} {z : SizeD} (hb : BagAt K H b) (e : Ext [b.a] H H1) (h : SizeIs K H v z) : SizeIs K H1 v z := by
  cases z with
  | no => exact h
  | win q => exact ⟨h.1.b hb e, h.2⟩
  | tries n => exact h
def RW (n : Str) (vr : V) (d : Str) (w : Int) : List (Key × V) := [(.inr "name", .str n), (.inr "route", vr), (.inr "kind", .str d), (.inr "w", .int w)]
def RowFs (n : Str) (vr : V) (d : Str) (w y : Int) (vg vG vD vm : V) (o : Bool) (vz vb : V) : List (Key × V) :=
  [(.inr "name", .str n), (.inr "route", vr), (.inr "kind", .str d), (.inr "w", .int w), (.inr "way", .int y), (.inr "g", vg), (.inr "G", vG), (.inr "door", vD), (.inr "wish", vm), (.inr "odd", .bl o), (.inr "size", vz), (.inr "bufs", vb)]
theorem putK_new {l : List (Key × V)} {k : Key} {v : V} (h : (l.any fun kv => decide (kv.1 = k)) = false) : putK l k v = l ++ [(k, v)] := by
  unfold putK
  rw [h]
  rfl
section
variable {n d : Str} {vr vg vG vD vm vz vb v : V} {w y : Int} {o : Bool}
theorem rv_name : valV (RowFs n vr d w y vg vG vD vm o vz vb) (.inr "name") = some (.str n) := by kernel_rfl
theorem rv_route : valV (RowFs n vr d w y vg vG vD vm o vz vb) (.inr "route") = some vr := by kernel_rfl
theorem rv_kind : valV (RowFs n vr d w y vg vG vD vm o vz vb) (.inr "kind") = some (.str d) := by kernel_rfl
theorem rv_w : valV (RowFs n vr d w y vg vG vD vm o vz vb) (.inr "w") = some (.int w) := by kernel_rfl
theorem rv_way : valV (RowFs n vr d w y vg vG vD vm o vz vb) (.inr "way") = some (.int y) := by kernel_rfl
theorem rv_g : valV (RowFs n vr d w y vg vG vD vm o vz vb) (.inr "g") = some vg := by kernel_rfl
theorem rv_G : valV (RowFs n vr d w y vg vG vD vm o vz vb) (.inr "G") = some vG := by kernel_rfl
theorem rv_door : valV (RowFs n vr d w y vg vG vD vm o vz vb) (.inr "door") = some vD := by kernel_rfl
theorem rv_wish : valV (RowFs n vr d w y vg vG vD vm o vz vb) (.inr "wish") = some vm := by kernel_rfl
theorem rv_odd : valV (RowFs n vr d w y vg vG vD vm o vz vb) (.inr "odd") = some (.bl o) := by kernel_rfl
theorem rv_size : valV (RowFs n vr d w y vg vG vD vm o vz vb) (.inr "size") = some vz := by kernel_rfl
theorem rv_bufs : valV (RowFs n vr d w y vg vG vD vm o vz vb) (.inr "bufs") = some vb := by kernel_rfl
theorem rp_G : putK (RowFs n vr d w y vg vG vD vm o vz vb) (.inr "G") v = RowFs n vr d w y vg v vD vm o vz vb := by kernel_rfl
theorem rp_door : putK (RowFs n vr d w y vg vG vD vm o vz vb) (.inr "door") v = RowFs n vr d w y vg vG v vm o vz vb := by kernel_rfl
theorem rp_wish : putK (RowFs n vr d w y vg vG vD vm o vz vb) (.inr "wish") v = RowFs n vr d w y vg vG vD v o vz vb := by kernel_rfl
theorem rp_size : putK (RowFs n vr d w y vg vG vD vm o vz vb) (.inr "size") v = RowFs n vr d w y vg vG vD vm o v vb := by kernel_rfl
theorem rp_bufs : putK (RowFs n vr d w y vg vG vD vm o vz vb) (.inr "bufs") v = RowFs n vr d w y vg vG vD vm o vz v := by kernel_rfl
theorem rq_way : putK (RW n vr d w) (.inr "way") v = RW n vr d w ++ [(.inr "way", v)] := by kernel_rfl
theorem rq_g {v1 : V} : putK (RW n vr d w ++ [(.inr "way", v1)]) (.inr "g") v = RW n vr d w ++ [(.inr "way", v1), (.inr "g", v)] := by kernel_rfl
theorem rq_G {v1 v2 : V} : putK (RW n vr d w ++ [(.inr "way", v1), (.inr "g", v2)]) (.inr "G") v = RW n vr d w ++ [(.inr "way", v1), (.inr "g", v2), (.inr "G", v)] := by kernel_rfl
theorem rq_door {v1 v2 v3 : V} : putK (RW n vr d w ++ [(.inr "way", v1), (.inr "g", v2), (.inr "G", v3)]) (.inr "door") v = RW n vr d w ++ [(.inr "way", v1), (.inr "g", v2), (.inr "G", v3), (.inr "door", v)] := by kernel_rfl
theorem rq_wish {v1 v2 v3 v4 : V} : putK (RW n vr d w ++ [(.inr "way", v1), (.inr "g", v2), (.inr "G", v3), (.inr "door", v4)]) (.inr "wish") v = RW n vr d w ++ [(.inr "way", v1), (.inr "g", v2), (.inr "G", v3), (.inr "door", v4), (.inr "wish", v)] := by kernel_rfl
theorem rq_odd {v1 v2 v3 v4 v5 : V} : putK (RW n vr d w ++ [(.inr "way", v1), (.inr "g", v2), (.inr "G", v3), (.inr "door", v4), (.inr "wish", v5)]) (.inr "odd") v = RW n vr d w ++ [(.inr "way", v1), (.inr "g", v2), (.inr "G", v3), (.inr "door", v4), (.inr "wish", v5), (.inr "odd", v)] := by kernel_rfl
theorem rq_size {v1 v2 v3 v4 v5 v6 : V} : putK (RW n vr d w ++ [(.inr "way", v1), (.inr "g", v2), (.inr "G", v3), (.inr "door", v4), (.inr "wish", v5), (.inr "odd", v6)]) (.inr "size") v = RW n vr d w ++ [(.inr "way", v1), (.inr "g", v2), (.inr "G", v3), (.inr "door", v4), (.inr "wish", v5), (.inr "odd", v6), (.inr "size", v)] := by kernel_rfl
theorem rq_bufs : putK (RW n vr d w ++ [(.inr "way", .int y), (.inr "g", vg), (.inr "G", vG), (.inr "door", vD), (.inr "wish", vm), (.inr "odd", .bl o), (.inr "size", vz)]) (.inr "bufs") v = RowFs n vr d w y vg vG vD vm o vz v := by kernel_rfl
theorem rg_G4 {v1 v2 v3 : V} : valV (RW n vr d w ++ [(.inr "way", v1), (.inr "g", v2), (.inr "G", v3)]) (.inr "G") = some v3 := by kernel_rfl
theorem rg_g5 {v1 v2 v3 v4 : V} : valV (RW n vr d w ++ [(.inr "way", v1), (.inr "g", v2), (.inr "G", v3), (.inr "door", v4)]) (.inr "g") = some v2 := by kernel_rfl
theorem rg_G5 {v1 v2 v3 v4 : V} : valV (RW n vr d w ++ [(.inr "way", v1), (.inr "g", v2), (.inr "G", v3), (.inr "door", v4)]) (.inr "G") = some v3 := by kernel_rfl
end
theorem gv_mem {κ α : Type} [DecidableEq κ] {c : List (κ × α)} {k : κ} {y : α} (h : gv c k = some y) : (k, y) ∈ c := by
  unfold gv at h
  obtain ⟨p, hp, rfl⟩ := Option.map_eq_some_iff.mp h
  have h1 := List.find?_some hp
  have h2 := List.mem_of_find?_eq_some hp
  have h3 : p.1 = k := of_decide_eq_true h1
  rw [← h3]
  exact h2
theorem putK_old {l : List (Key × V)} {k : Key} {v u : V} (h : valV l k = some u) : (putK l k v).length = l.length := by
  unfold putK
  rw [valV_any, h]
  simp
/-- what the rows' making keeps -/
structure FS (K : PySem.W.Frag) (H0 H : Hp) (b : Bag) (l d : Addr) (rs : List Str) (L : List (Key × V)) (vals : List V) (qs : List Rat) (wm : List (V × Option (Rat × Rat))) (ls : List (Addr × List V)) : Prop where
  bag : BagAt K H b
  row : H d = some (.dK L)
  nld : l ≠ d
  ams : Ams K H vals qs
  mn : ∀ p ∈ wm, ManIs K H p.1 p.2
  lst : ∀ p ∈ ls, SqL K H p.1 p.2 ∧ b.a ≠ p.1
  lf : ∃ kv c, H l = some (.dK kv) ∧ kv.length ≤ 100 ∧ TR (Am K H) kv c ∧ (∀ p ∈ c, In 30 1000 p.2) ∧ ∀ r ∈ rs, ∃ q, gv c (.inr r) = some q
  fr : H0 d = none
  ext : Ext [b.a, l, d] H0 H
section
variable {K : PySem.W.Frag} {H0 H H1 : Hp} {b : Bag} {l d : Addr} {rs : List Str} {L L' : List (Key × V)} {vals : List V} {qs : List Rat} {wm : List (V × Option (Rat × Rat))} {ls : List (Addr × List V)} {v : V} {q : Rat}
theorem FS.x0 (h : FS K H0 H b l d rs L vals qs wm ls) (e : Ext [] H H1) : FS K H0 H1 b l d rs L vals qs wm ls := by
  obtain ⟨kv, c, h1, h100, h2, h3⟩ := h.lf
  exact ⟨h.bag.x0 e, e _ _ h.row (fun z => nomatch z), h.nld, h.ams.x0 e, fun p hp => (h.mn p hp).x0 e, fun p hp => ⟨lst0 e (h.lst p hp).1, (h.lst p hp).2⟩, ⟨kv, c, e _ _ h1 (fun z => nomatch z), h100, h2.imp fun v y a => a.x0 e, h3⟩, h.fr, h.ext.trans e.of0⟩
theorem FS.bg (h : FS K H0 H b l d rs L vals qs wm ls) (b1 : BagAt K H1 b) (e : Ext [b.a] H H1) : FS K H0 H1 b l d rs L vals qs wm ls := by
  obtain ⟨kv, c, h1, h100, h2, h3⟩ := h.lf
  have nd := bag_ne_dk h.bag h.row
  have nl := bag_ne_dk h.bag h1
  exact ⟨b1, e _ _ h.row (fun z => nd (List.mem_singleton.mp z)), h.nld, h.ams.b h.bag e, fun p hp => ManIs.x e (h.mn p hp) (fun a ha => by rw [List.mem_singleton.mp ha]; exact h.bag.lst), fun p hp => ⟨lstX e (h.lst p hp).1 fun z => (h.lst p hp).2 (List.mem_singleton.mp z).symm, (h.lst p hp).2⟩, ⟨kv, c, e _ _ h1 (fun z => nl (List.mem_singleton.mp z)), h100, h2.imp fun v y a => a.b h.bag e, h3⟩, h.fr, h.ext.trans (e.mono fun x hx => by rw [List.mem_singleton.mp hx]; exact List.mem_cons_self)⟩
theorem FS.put (h : FS K H0 H b l d rs L vals qs wm ls) : FS K H0 (upd H d (.dK L')) b l d rs L' vals qs wm ls := by
  obtain ⟨kv, c, h1, h100, h2, h3⟩ := h.lf
  have e : Ext [d] H (upd H d (.dK L')) := Ext.refl.at_ List.mem_cons_self
  have n := no_dk h.row
  exact ⟨h.bag.f e n.2, upd_same, h.nld, AmsF e n.1 h.ams, fun p hp => (h.mn p hp).f e n.1, fun p hp => ⟨lstF e (h.lst p hp).1 n.2, (h.lst p hp).2⟩, ⟨kv, c, e _ _ h1 (fun z => h.nld (List.mem_singleton.mp z)), h100, h2.imp fun v y a => a.f e n.1, h3⟩, h.fr, h.ext.trans (e.mono fun x hx => by rw [List.mem_singleton.mp hx]; simp)⟩
theorem FS.left {kv kv' : List (Key × V)} {c' : List (Key × Rat)} (h : FS K H0 H b l d rs L vals qs wm ls) (h1 : H l = some (.dK kv)) (h100 : kv'.length ≤ 100) (h2 : TR (Am K H) kv' c') (h3 : ∀ p ∈ c', In 30 1000 p.2) (h4 : ∀ r ∈ rs, ∃ q, gv c' (.inr r) = some q) : FS K H0 (upd H l (.dK kv')) b l d rs L vals qs wm ls := by
  have e : Ext [l] H (upd H l (.dK kv')) := Ext.refl.at_ List.mem_cons_self
  have n := no_dk h1
  exact ⟨h.bag.f e n.2, by rw [upd_ne h.nld.symm]; exact h.row, h.nld, AmsF e n.1 h.ams, fun p hp => (h.mn p hp).f e n.1, fun p hp => ⟨lstF e (h.lst p hp).1 n.2, (h.lst p hp).2⟩, ⟨kv', c', upd_same, h100, h2.imp fun v y a => a.f e n.1, h3, h4⟩, h.fr, h.ext.trans (e.mono fun x hx => by rw [List.mem_singleton.mp hx]; simp)⟩
theorem FS.add (h : FS K H0 H b l d rs L vals qs wm ls) (a : Am K H v q) : FS K H0 H b l d rs L (v :: vals) (q :: qs) wm ls := ⟨h.bag, h.row, h.nld, Ams.cons a h.ams, h.mn, h.lst, h.lf, h.fr, h.ext⟩
theorem FS.addM {man : Option (Rat × Rat)} (h : FS K H0 H b l d rs L vals qs wm ls) (a : ManIs K H v man) : FS K H0 H b l d rs L vals qs ((v, man) :: wm) ls := ⟨h.bag, h.row, h.nld, h.ams, fun p hp => (List.mem_cons.mp hp).elim (fun z => by rw [z]; exact a) (h.mn p), h.lst, h.lf, h.fr, h.ext⟩
theorem FS.addL {p : Addr} {xs : List V} (h : FS K H0 H b l d rs L vals qs wm ls) (a : SqL K H p xs) (hn : b.a ≠ p) : FS K H0 H b l d rs L vals qs wm ((p, xs) :: ls) := ⟨h.bag, h.row, h.nld, h.ams, h.mn, fun p hp => (List.mem_cons.mp hp).elim (fun z => by rw [z]; exact ⟨a, hn⟩) (h.lst p), h.lf, h.fr, h.ext⟩
theorem FS.am (h : FS K H0 H b l d rs L vals qs wm ls) (i : Nat) (hv : vals[i]? = some v) (hq : qs[i]? = some q) : Am K H v q := h.ams.2 i v q hv hq
end
end Yk

set_option maxHeartbeats 16000000
namespace Yk
open PySem PySem.Spec PyProof.Rows L2

local macro_rules | `(tactic| walk_at "st") => `(tactic| first
  | with_reducible refine' r_tAt ?_
  | ((with_reducible refine' r_fld ?h1 ?h2 ?h3); (case h1 => first | assumption | exact upd_same); (case h2 => first | walk_at "lk" | rfl))
  | with_reducible refine' r_sAt ?_
  | ((with_reducible refine' r_putU ?h1 ?h2); (case h1 => (repeat refine putF_lt ?_); decide))
  | ((with_reducible refine' r_put ?h1 ?h2 ?h3); (case h1 => first | assumption | exact upd_same); (case h2 => (repeat refine putF_lt ?_); decide))
  | with_reducible refine' r_tMt ?_
  | ((with_reducible refine' r_met ?h1 ?h2 ?h3); (case h1 => first | assumption | exact upd_same); (case h2 => first | walk_at "lk" | rfl))
  | with_reducible refine' r_tCr ?_
  | with_reducible refine' r_tCrK ?_
  | with_reducible refine' r_chain ?_)
local macro_rules | `(tactic| walk_at "st") => `(tactic| first
  | with_reducible refine' r_dget ?_
  | with_reducible refine' r_dc ?_
  | with_reducible refine' r_iVals ?_
  | with_reducible refine' r_dnotin ?_
  | with_reducible refine' r_din ?_
  | with_reducible refine' r_iItems ?_
  | with_reducible refine' r_iKeysT ?_
  | with_reducible refine' r_tget1 ?_
  | with_reducible refine' r_tget2 ?_
  | with_reducible refine' r_dput ?_
  | with_reducible refine' r_tPr ?_
  | ((with_reducible refine' r_prp2 ?h1 ?h2); (case h1 => first | assumption | exact upd_same))
  | with_reducible refine' r_par3 ?_
  | ((with_reducible refine' r_dnT ?_); (intro np hnp))
  | ((with_reducible refine' r_dnK ?_); (intro np hnp)))
/-! The row of a flow. -/
section
variable {nx : L2.St → Hp → Prop} {rt : VK} {bk ct : L2.St → Hp → Prop} {σ : L2.St} {H : Hp} {Q : VK} {trs : List (TE × TE)} {tk tv : TE} {R : List (V × V) → Hp → Prop}
theorem r_disp (h : ∀ p, H p = none → tPairs trs σ (upd H p (.dK [])) fun ps H2 => H2 p = some (.dK []) ∧ ∃ kvs : List (Key × V), ps = kvs.map (fun kv => (kV kv.1, kv.2)) ∧ kvs.length ≤ 15 ∧ Q (.ref p) (upd H2 p (.dK (mergeK [] kvs)))) : tDisp trs σ H Q := h
theorem r_prC (h : tk σ H fun x H1 => tv σ H1 fun y H2 => tPairs trs σ H2 fun ps H3 => R ((x, y) :: ps) H3) : tPairs ((tk, tv) :: trs) σ H R := h
theorem r_prN (h : R [] H) : tPairs [] σ H R := h
end
local macro_rules | `(tactic| walk_at "st") => `(tactic| first
  | with_reducible refine' r_prC ?_
  | with_reducible refine' r_prN ?_)
/-- a row in the heap: a flow's data; least, cap, door: l, c, g -/
def FRowAt (K : PySem.W.Frag) (H : Hp) (b : Bag) (d : Addr) (F : FlowD) : Prop := ∃ (ra ba : Addr) (xs : List V) (vz vg vG vD vm : V), H d = some (.dK (RowFs F.n (.ref ra) F.d F.w F.y vg vG vD vm F.b vz (.ref ba))) ∧
  SqL K H ra (F.rs.map V.str) ∧ SqL K H ba xs ∧ b.a ≠ ra ∧ b.a ≠ ba ∧ Ams K H xs F.bs ∧ SizeIs K H vz F.z ∧ Am K H vg F.l ∧ Am K H vG F.c ∧ Am K H vD F.g ∧ ManIs K H vm F.man
structure FRowOk (F : FlowD) : Prop where
  ok : FlowOk F
  il : In 30 1000 F.l
  ic : In 30 1000 F.c
  ig : In 30 1000 F.g
  iz : ∀ q, F.z = .win q → In 30 1000 q
def spFlow (K : PySem.W.Frag) : Sp := fun vs H Q _ => ∃ (b : Bag) (s : Str) (ra l ka : Addr) (rs ks : List Str) (kv : List (Key × V)) (c : List (Key × Rat)) (wild : Bool), vs = [.ref b.a, .str s, .ref ra, .ref l, .ref ka, .bl wild] ∧ BagAt K H b ∧ NmS s ∧ RouteOk rs ∧ SqL K H ra (rs.map V.str) ∧ b.a ≠ ra ∧
  SqL K H ka (ks.map V.str) ∧ b.a ≠ ka ∧ 0 < ks.length ∧ ks.length ≤ 4000 ∧ (∀ k ∈ ks, k = "level" ∨ k = "eager" ∨ k = "window" ∨ k = "probe") ∧ H l = some (.dK kv) ∧ kv.length ≤ 100 ∧ TR (Am K H) kv c ∧ (∀ p ∈ c, In 30 1000 p.2) ∧ (∀ r ∈ rs, ∃ q, gv c (.inr r) = some q) ∧
  ∀ (d : Addr) (F : FlowD) H', FRowOk F → F.n = s → F.rs = rs → F.d ∈ ks → (wild = false → F.b = false) → FRowAt K H' b d F → H d = none → BagAt K H' b → Ext [b.a, l] H H' → Q (.ref d) H'
section
variable {P : Program} {w : World} {K : PySem.W.Frag} {mg : Str → Option Value} {base : Heap} {f : Addr} {fd : FuncData}
abbrev s_law_flow : Stmt := top 67
theorem c_law_flow : FnScope ["_law_bag_here", "_law_called", "_law_route", "_law_left", "_law_kinds", "_law_wild", "_law_row", "_law_least_left", "_law_one", "_law_part_here", "_law_menu"] ["_law_bag_here", "_law_called", "_law_route", "_law_left", "_law_kinds", "_law_wild"] (defScope s_law_flow) := ⟨rfl, rfl, rfl, by decide +kernel, rfl, by decide +kernel, by decide +kernel⟩
theorem f_law_flow (F : FunD K "_law_flow" "_law_flow" (defArgs s_law_flow) (defBody s_law_flow) (defScope s_law_flow) [] [] f fd) (hm : mg "_law_flow" = some (.ref f)) (T : Bt mg) (F_law_draw : Fn P w K mg base 1 "_law_draw" (spDraw K)) (F_law_of : Fn P w K mg base 2 "_law_of" (spOf K)) (G_law_some : Fn P w K mg base 3 "_law_some" (spSome5 K)) (F_law_part : Fn P w K mg base 3 "_law_part" (spPart K)) (F_law_sum : Fn P w K mg base 2 "_law_sum" (sp2 (fun _ _ => True) (· + ·) K)) (F_law_rest : Fn P w K mg base 2 "_law_rest" (sp2 (fun _ _ => True) restQ K)) (F_law_min : Fn P w K mg base 2 "_law_min" (sp2 (fun _ _ => True) lmin K)) (F_law_less : Fn P w K mg base 1 "_law_less" (spLess K)) (F_law_above : Fn P w K mg base 4 "_law_above" (spAbove K)) (F_law_wish : Fn P w K mg base 4 "_law_wish" (spWish K)) : Fn P w K mg base 5 "_law_flow" (spFlow K) := by
  refine fn_def F hm c_law_flow (fun vs H Q E h => ?_) (fun _ _ _ _ _ _ us hl => match us, hl with | [_, _, _, _, _, _], _ => rfl) (fun cdv A outer s H vs Q E hr h => ?_)
  · obtain ⟨b, s, ra, l, ka, rs, ks, kv, c, wild, rfl, _⟩ := h
    rfl
  · obtain ⟨b, s, ra, l, ka, rs, ks, kv, c, wild, rfl, hb, hs, ok, hra, nra, hka, nka, k0, k4, hk, hl, h100, htr, hc, hcov, k⟩ := h
    have nd := c_law_flow.nd
    refine ⟨_, (pss_cons (ps_set (i := 6) nd rfl (by first | exact Or.inl rfl | exact Or.inr rfl) (pe_disp (pps_cons pe_str (pv 1) (pps_cons pe_str (pv 2) (pps_cons pe_str (pe_fn F_law_of (hr.mono (by decide)) (pa_cons (pv 0) (pa_cons (pv 4) pa_nil))) (pps_cons pe_str (pe_fn F_law_of (hr.mono (by decide)) (pa_cons (pv 0) (pa_cons (pe_lst (pa_cons pe_int (pa_cons pe_int (pa_cons pe_int (pa_cons pe_int (pa_cons pe_int (pa_cons pe_int pa_nil))))))) pa_nil))) pps_nil)))) rfl rfl (by simp) (by decide)))
      (pss_cons (ps_dput (hu_of hr) (pv 6) pe_str (pe_op op_add pe_int (pe_fn F_law_draw (hr.mono (by decide)) (pa_cons (pv 0) (pa_cons pe_int pa_nil)))) (by rfl))
      (pss_cons (ps_set (i := 7) nd rfl (by first | exact Or.inl rfl | exact Or.inr rfl) (pe_tup (pa_cons pe_int (pa_cons pe_int pa_nil))))
      (pss_cons (ps_for PassesOwn.never rfl (pi_list (pv 2)) (pg_name (i := 8) nd rfl (by first | exact Or.inl rfl | exact Or.inr rfl))
        (pss_one (ps_set (i := 7) nd rfl (by first | exact Or.inl rfl | exact Or.inr rfl) (pe_fn F_law_min (hr.mono (by decide)) (pa_cons (pv 7) (pa_cons (pe_dget (hu_of hr) (pv 3) (pv 8) (fun _ _ => rfl)) pa_nil))))))
      (pss_cons (ps_set (i := 9) nd rfl (by first | exact Or.inl rfl | exact Or.inr rfl) (pe_fn G_law_some (hr.mono (by decide)) (pa_cons (pv 0) (pa_cons pe_int pa_nil))))
      (pss_mid (ps_if (pt_val (pe_fn F_law_less (hr.mono (by decide)) (pa_cons (pv 7) (pa_cons (pv 9) pa_nil))))
        (pss_one (ps_set (i := 9) nd rfl (by first | exact Or.inl rfl | exact Or.inr rfl) (pe_ifExp (pt_cmpR op_le (pe_ix ix_tup (pv 7) pe_int (fun _ _ => rfl)) pe_int (nomark _)) (pv 7) (pe_tup (pa_cons pe_int (pa_cons pe_int pa_nil))))))
        pss_nil)
      (pss_cons (ps_for PassesOwn.never rfl (pi_list (pv 2)) (pg_name (i := 8) nd rfl (by first | exact Or.inl rfl | exact Or.inr rfl))
        (pss_one (ps_dput (hu_of hr) (pv 3) (pv 8) (pe_fn F_law_rest (hr.mono (by decide)) (pa_cons (pe_dget (hu_of hr) (pv 3) (pv 8) (fun _ _ => rfl)) (pa_cons (pv 9) pa_nil))) (by rfl))))
      (pss_cons (ps_dput (hu_of hr) (pv 6) pe_str (pv 9) (by rfl))
      (pss_mid (ps_dput (hu_of hr) (pv 6) pe_str (pe_ifExp (pt_cmpR op_eq (pe_fn F_law_draw (hr.mono (by decide)) (pa_cons (pv 0) (pa_cons pe_int pa_nil))) pe_int (nomark _)) (pe_fn F_law_above (hr.mono (by decide)) (pa_cons (pv 0) (pa_cons (pv 9) pa_nil))) (pe_tup (pa_cons pe_int (pa_cons pe_int pa_nil)))) (by rfl))
      (pss_cons (ps_dput (hu_of hr) (pv 6) pe_str (pe_fn F_law_above (hr.mono (by decide)) (pa_cons (pv 0) (pa_cons (pe_dget (hu_of hr) (pv 6) pe_str (fun _ _ => rfl)) pa_nil))) (by rfl))
      (pss_cons (ps_dput (hu_of hr) (pv 6) pe_str (pe_fn F_law_wish (hr.mono (by decide)) (pa_cons (pv 0) (pa_cons (pv 6) pa_nil))) (by rfl))
      (pss_mid (ps_dput (hu_of hr) (pv 6) pe_str (pe_and (pv 5) (pe_one (pe_cmpR op_eq (pe_fn F_law_draw (hr.mono (by decide)) (pa_cons (pv 0) (pa_cons pe_int pa_nil))) pe_int (nomark _)))) (by rfl))
      (pss_cons (ps_dput (hu_of hr) (pv 6) pe_str pe_non (by rfl))
      (pss_cons (ps_set (i := 10) nd rfl (by first | exact Or.inl rfl | exact Or.inr rfl) (pe_lst (pa_cons (pe_fn G_law_some (hr.mono (by decide)) (pa_cons (pv 0) (pa_cons pe_int pa_nil))) (pa_cons (pe_fn G_law_some (hr.mono (by decide)) (pa_cons (pv 0) (pa_cons pe_int pa_nil))) (pa_cons (pe_tup (pa_cons pe_int (pa_cons pe_int pa_nil))) (pa_cons (pe_tup (pa_cons pe_int (pa_cons pe_int pa_nil))) (pa_cons (pe_tup (pa_cons pe_int (pa_cons pe_int pa_nil))) pa_nil)))))))
      (pss_cons (ps_dput (hu_of hr) (pv 6) pe_str (pe_lc (own := [("_law_one", 8)]) (g := gName 8) rfl nd (pi_list (pv 2)) (blkOk_by (N := ["_law_bag_here", "_law_called", "_law_route", "_law_left", "_law_kinds", "_law_wild", "_law_row", "_law_least_left", "_law_one", "_law_part_here", "_law_menu"]) (sc := defScope s_law_flow) (by decide +kernel)) (fun _ _ _ _ _ => pg_name (i := 8) nd rfl (Or.inl rfl)) (fun _ _ _ _ _ => pts_nil) (fun _ _ _ _ _ => (pe_fn F_law_of (hr.mono (by decide)) (pa_cons (pv 0) (pa_cons (pv 10) pa_nil))))) (by rfl))
      (pss_mid (ps_if (pt_cmpR op_eq (pe_dget (hu_of hr) (pv 6) pe_str (fun _ _ => rfl)) pe_str (nomark _))
        (pss_cons (ps_dput (hu_of hr) (pv 6) pe_str (pe_fn F_law_of (hr.mono (by decide)) (pa_cons (pv 0) (pa_cons (pe_lst (pa_cons (pe_fn G_law_some (hr.mono (by decide)) (pa_cons (pv 0) (pa_cons pe_int pa_nil))) (pa_cons (pe_tup (pa_cons pe_int (pa_cons pe_int pa_nil))) (pa_cons (pe_tup (pa_cons pe_int (pa_cons pe_int pa_nil))) (pa_cons (pe_tup (pa_cons pe_int (pa_cons pe_int pa_nil))) pa_nil))))) pa_nil))) (by rfl))
        (pss_one (ps_dput (hu_of hr) (pv 6) pe_str (pe_lc (own := [("_law_one", 8)]) (g := gName 8) rfl nd (pi_list (pe_dget (hu_of hr) (pv 6) pe_str (fun _ _ => rfl))) (blkOk_by (N := ["_law_bag_here", "_law_called", "_law_route", "_law_left", "_law_kinds", "_law_wild", "_law_row", "_law_least_left", "_law_one", "_law_part_here", "_law_menu"]) (sc := defScope s_law_flow) (by decide +kernel)) (fun _ _ _ _ _ => pg_name (i := 8) nd rfl (Or.inl rfl)) (fun _ _ _ _ _ => pts_nil) (fun _ _ _ _ _ => (pe_fn F_law_sum (hr.mono (by decide)) (pa_cons (pe_dget (hu_of hr) (pv 6) pe_str (fun _ _ => rfl) : PE _ _ (tDGet _ _)) (pa_cons (pe_fn F_law_part (hr.mono (by decide)) (pa_cons (pv 0) (pa_cons (pv 8) pa_nil))) pa_nil))))) (by rfl))))
        pss_nil)
      (pss_cons (ps_if (pt_cmpR op_eq (pe_dget (hu_of hr) (pv 6) pe_str (fun _ _ => rfl)) pe_str (nomark _))
        (pss_one (ps_dput (hu_of hr) (pv 6) pe_str (pe_op op_add pe_int (pe_fn F_law_draw (hr.mono (by decide)) (pa_cons (pv 0) (pa_cons pe_int pa_nil)))) (by rfl)))
        pss_nil)
      (pss_one (ps_ret (pv 6)))))))))))))))))))), ?_⟩
    show (_ : TS) _ [some _, some _, some _, some _, some _, some _, none, none, none, none, none] _
    try dsimp only [cxOf, Cx.nox]
    walk_at "go"
    refine r_disp fun d hd => ?_
    have nld : l ≠ d := fun z => by rw [z, hd] at hl; cases hl
    have e0 : Ext [] H (upd H d (.dK [])) := Ext.refl.new hd
    have S0 : FS K H (upd H d (.dK [])) b l d rs [] [] [] [] [(ra, rs.map V.str), (ka, ks.map V.str)] := ⟨hb.x0 e0, upd_same, nld, Ams.nil, (fun _ z => nomatch z), fun p hp => by
      simp only [List.mem_cons, List.not_mem_nil, or_false] at hp
      rcases hp with rfl | rfl
      · exact ⟨lst0 e0 hra, nra⟩
      · exact ⟨lst0 e0 hka, nka⟩, ⟨kv, c, e0 _ _ hl (fun z => nomatch z), h100, htr.imp fun v y a => a.x0 e0, hc, hcov⟩, hd, e0.of0⟩
    walk_at "go"
    refine of_strN S0.bag (S0.lst (ka, _) (by simp)).1 nka k0 k4 fun kd H1 hkd b1 n1 => ?_
    have S1 := S0.bg b1 n1
    walk_at "go"
    rename_i p hp
    have S2 := S1.x0 (Ext.refl.new (o := .lst [V.int 1, V.int 2, V.int 3, V.int 1, V.int 5, V.int 12]) hp)
    refine of_intN (ns := [1, 2, 3, 1, 5, 12]) S2.bag lstS (S1.bag.ne hp) (by decide) (by decide) fun x H2 hx b2 n2 => ?_
    have S3 := S2.bg b2 n2
    clear S0 S1 S2
    have hw : 1 ≤ x ∧ x ≤ 12 := by
      simp only [List.mem_cons, List.not_mem_nil, or_false] at hx
      omega
    walk_at "go"
    refine ⟨S3.row, [(.inr "name", .str s), (.inr "route", .ref ra), (.inr "kind", .str kd), (.inr "w", .int x)], rfl, (show 4 ≤ 15 by decide), ?_⟩
    rw [show mergeK [] [(.inr "name", .str s), (.inr "route", .ref ra), (.inr "kind", .str kd), (.inr "w", .int x)] = RW s (.ref ra) kd x by kernel_rfl]
    have S4 : FS K H (upd H2 d (.dK (RW s (.ref ra) kd x))) b l d rs _ _ _ _ _ := S3.put
    generalize upd H2 d (.dK (RW s (.ref ra) kd x)) = H3 at *
    clear S3 b2 n2 b1 n1 hp
    walk_at "go"
    refine k_draw S4.bag (by omega) (by decide) fun y H4 y0 y1 b4 n4 => ?_
    have S5 := S4.bg b4 n4
    clear S4
    walk_at "go"
    refine r_putS S5.row (show 4 < 1000 by decide) ?_
    rw [rq_way]
    have S6 : FS K H (upd H4 d (.dK (RW s (.ref ra) kd x ++ [(.inr "way", .int (1 + y))]))) b l d rs _ _ _ _ _ := S5.put
    generalize upd H4 d (.dK (RW s (.ref ra) kd x ++ [(.inr "way", .int (1 + y))])) = H5 at *
    clear S5 b4 n4
    walk_at "go"
    rename_i pt hpt
    have S7 := (S6.x0 (Ext.refl.new (o := .tup [.int 1000, .int 1]) hpt)).add (v := .ref pt) (q := 1000) ⟨pt, rfl, tupS⟩
    generalize upd H5 pt (.tup [.int 1000, .int 1]) = H6 at *
    clear S6 hpt
    have hrs : ∀ (i : Nat) (x : V), (rs.map V.str)[i]? = some x → ∃ r, r ∈ rs ∧ x = .str r := fun i x hx => by
      rw [List.getElem?_map] at hx
      obtain ⟨r, hr, rfl⟩ := Option.map_eq_some_iff.mp hx
      exact ⟨r, List.mem_of_getElem? hr, rfl⟩
    have lft : ∀ {H' : Hp} {L vals qs wm ls} (S : FS K H H' b l d rs L vals qs wm ls) (r : Str), r ∈ rs → ∃ kv c v q, H' l = some (.dK kv) ∧ kv.length ≤ 100 ∧ TR (Am K H') kv c ∧ (∀ p ∈ c, In 30 1000 p.2) ∧ (∀ r ∈ rs, ∃ q, gv c (.inr r) = some q) ∧ valV kv (.inr r) = some v ∧ Am K H' v q ∧ In 30 1000 q := fun S r hr => by
      obtain ⟨kv, c, h1, h2, h3, h4, h5⟩ := S.lf
      obtain ⟨q, hq⟩ := h5 r hr
      rcases h3.val (.inr r) with ⟨_, z⟩ | ⟨v, q', e1, e2, e3⟩
      · rw [hq] at z; cases z
      · rw [hq] at e2
        cases e2
        exact ⟨kv, c, v, q, h1, h2, h3, h4, h5, e1, e3, h4 _ (gv_mem hq)⟩
    refine r_forL rfl (S7.lst (ra, rs.map V.str) (by simp)).1 (fun i σ H' => ∃ vll ll u8, σ = [some (V.ref b.a), some (V.str s), some (V.ref ra), some (V.ref l), some (V.ref ka), some (V.bl wild), some (V.ref d), some vll, u8, none, none] ∧ In 30 1000 ll ∧ FS K H H' b l d rs (RW s (.ref ra) kd x ++ [(.inr "way", .int (1 + y))]) [vll] [ll] [] [(ra, rs.map V.str), (ka, ks.map V.str)]) ⟨_, 1000, _, rfl, In.nat (Nat.le_refl 1000), S7⟩ ?_ ?_ ?_
    · rintro i σ H' _ ⟨_, _, _, _, _, S⟩
      exact (S.lst (ra, rs.map V.str) (by simp)).1
    · clear S7
      rintro i z σ H7 hz ⟨vll, ll, u8, rfl, ill, S⟩
      obtain ⟨r, hr, rfl⟩ := hrs i z hz
      obtain ⟨kv1, c1, v1, q1, f1, f2, f3, f4, f5, f6, f7, f8⟩ := lft S r hr
      walk_at "go"
      refine r_getS f1 f6 ?_
      walk_at "go"
      refine k_two (S.am 0 rfl rfl) f7 (in30z ill z1000) (in30z f8 z1000) ill.nn f8.nn trivial fun vm H8 e8 am => ?_
      walk_at "go"
      have S1 := (S.x0 e8).add am
      exact ⟨vm, _, _, rfl, in_lmin ill f8, S1.bag, S1.row, S1.nld, Ams.cons am Ams.nil, S1.mn, S1.lst, S1.lf, S1.fr, S1.ext⟩
    · clear S7
      rintro σ H7 ⟨vll, ll, u8, rfl, ill, S⟩
      walk_at "go"
      refine k_some5 (M := 3) rfl S.bag (by decide) fun vp qp H8 ap ip dp b8 n8 => ?_
      have S1 := (S.bg b8 n8).add ap
      clear S
      walk_at "go"
      refine r_mid (fun σ' H' => ∃ vll u8 vp qp, σ' = [some (V.ref b.a), some (V.str s), some (V.ref ra), some (V.ref l), some (V.ref ka), some (V.bl wild), some (V.ref d), some vll, u8, some vp, none] ∧ In 30 1000 qp ∧ qp.den ≤ 12 ∧ FS K H H' b l d rs (RW s (.ref ra) kd x ++ [(.inr "way", .int (1 + y))]) [vp] [qp] [] [(ra, rs.map V.str), (ka, ks.map V.str)]) ?_ ?_
      · obtain ⟨al, rfl, hal⟩ := S1.am 1 rfl rfl
        walk_at "go"
        refine ⟨.ref al, vp, ll, qp, rfl, S1.am 1 rfl rfl, S1.am 0 rfl rfl, in30z ill z1000, in30z ip (Nat.le_trans (by decide) z1000), ?_⟩
        walk_at "go"
        refine r_dec (fun _ => ?_) (fun _ => ?_)
        · walk_at "go"
          refine r_dec (fun hd12 => ?_) (fun _ => ?_)
          · walk_at "go"
            exact ⟨_, _, _, ll, rfl, ill, by omega, S1.bag, S1.row, S1.nld, Ams.cons (S1.am 1 rfl rfl) Ams.nil, S1.mn, S1.lst, S1.lf, S1.fr, S1.ext⟩
          · walk_at "go"
            rename_i p hp
            have S2 := S1.x0 (Ext.refl.new (o := .tup [.int 0, .int 1]) hp)
            exact ⟨_, _, _, 0, rfl, In.zero, by decide, S2.bag, S2.row, S2.nld, Ams.cons ⟨p, rfl, tupS⟩ Ams.nil, S2.mn, S2.lst, S2.lf, S2.fr, S2.ext⟩
        · walk_at "go"
          exact ⟨_, _, _, qp, rfl, ip.most (by decide), by omega, S1.bag, S1.row, S1.nld, Ams.cons (S1.am 0 rfl rfl) Ams.nil, S1.mn, S1.lst, S1.lf, S1.fr, S1.ext⟩
      · clear S1 ap ip dp b8 n8 ill
        rintro σ H8 ⟨vll, u8, vp, qp, rfl, ip, dp, S⟩
        walk_at "go"
        refine r_forL rfl (S.lst (ra, rs.map V.str) (by simp)).1 (fun i σ H' => ∃ u8, σ = [some (V.ref b.a), some (V.str s), some (V.ref ra), some (V.ref l), some (V.ref ka), some (V.bl wild), some (V.ref d), some vll, u8, some vp, none] ∧ FS K H H' b l d rs (RW s (.ref ra) kd x ++ [(.inr "way", .int (1 + y))]) [vp] [qp] [] [(ra, rs.map V.str), (ka, ks.map V.str)]) ⟨_, rfl, S⟩ ?_ ?_ ?_
        · rintro i σ H' _ ⟨_, _, S⟩
          exact (S.lst (ra, rs.map V.str) (by simp)).1
        · clear S
          rintro i z σ H9 hz ⟨u8, rfl, S⟩
          obtain ⟨r, hr, rfl⟩ := hrs i z hz
          obtain ⟨kv1, c1, v1, q1, f1, f2, f3, f4, f5, f6, f7, f8⟩ := lft S r hr
          walk_at "go"
          refine r_getS f1 f6 ?_
          walk_at "go"
          refine k_two f7 (S.am 0 rfl rfl) (in30z f8 z1000) (in30z ip z1000) f8.nn ip.nn trivial fun vm H10 e10 am => ?_
          have S1 := S.x0 e10
          have f1' := e10 _ _ f1 fun z => nomatch z
          have irq : In 30 1000 (restQ q1 qp) := by
            unfold restQ
            split
            · exact In.zero
            · rename_i hn
              exact f8.sub ip (Rat.le_of_lt (Rat.not_le.mp hn))
          walk_at "go"
          refine r_putS f1' (by omega) ?_
          walk_at "go"
          refine ⟨_, rfl, S1.left f1' (c' := gp c1 (.inr r) (restQ q1 qp)) (by rw [putK_old f6]; exact f2) ((f3.imp fun v y a => a.x0 e10).put am) (fun p hp => ?_) fun r' hr' => ?_⟩
          · rcases gp_mem hp with h | h
            · rw [h]; exact irq
            · exact f4 p h
          · rw [gv_gp]
            split
            · exact ⟨_, rfl⟩
            · exact f5 r' hr'
        · clear S
          rintro σ H9 ⟨u8, rfl, S⟩
          walk_at "go"
          refine r_putS S.row (show 5 < 1000 by decide) ?_
          rw [rq_g]
          have S1 : FS K H (upd H9 d (.dK (RW s (.ref ra) kd x ++ [(.inr "way", .int (1 + y)), (.inr "g", vp)]))) b l d rs _ _ _ _ _ := S.put
          generalize upd H9 d (.dK (RW s (.ref ra) kd x ++ [(.inr "way", .int (1 + y)), (.inr "g", vp)])) = H10 at *
          clear S
          walk_at "go"
          refine r_mid (fun σ' H' => ∃ u8 vG G, σ' = [some (V.ref b.a), some (V.str s), some (V.ref ra), some (V.ref l), some (V.ref ka), some (V.bl wild), some (V.ref d), some vll, u8, some vp, none] ∧ In 30 1000 G ∧ G.den ≤ 12 ∧ qp ≤ G ∧ FS K H H' b l d rs (RW s (.ref ra) kd x ++ [(.inr "way", .int (1 + y)), (.inr "g", vp), (.inr "G", vG)]) [vG, vp] [G, qp] [] [(ra, rs.map V.str), (ka, ks.map V.str)]) ?_ ?_
          · walk_at "go"
            refine k_draw S1.bag (by omega) (by decide) fun y2 H11 y20 y21 b11 n11 => ?_
            have S2 := S1.bg b11 n11
            clear S1
            walk_at "go"
            refine r_dec (fun _ => ?_) (fun _ => ?_)
            · walk_at "go"
              refine ⟨b, vp, qp, rfl, S2.bag, S2.am 0 rfl rfl, ip, dp, fun vG G H12 aG iG dG hG b12 n12 => ?_⟩
              have S3 := (S2.bg b12 n12).add aG
              walk_at "go"
              refine r_putS S3.row (show 6 < 1000 by decide) ?_
              rw [rq_G]
              walk_at "go"
              exact ⟨_, vG, G, rfl, iG, dG, hG, S3.put⟩
            · walk_at "go"
              rename_i p hp
              have S3 := (S2.x0 (Ext.refl.new (o := .tup [.int 1000, .int 1]) hp)).add (v := .ref p) (q := 1000) ⟨p, rfl, tupS⟩
              walk_at "go"
              refine r_putS S3.row (show 6 < 1000 by decide) ?_
              rw [rq_G]
              walk_at "go"
              exact ⟨_, _, 1000, rfl, In.nat (Nat.le_refl 1000), by decide +kernel, Rat.le_trans ip.le (by norm_cast), S3.put⟩
          · clear S1
            rintro σ H11 ⟨u8, vG, G, rfl, iG, dG, hG, S⟩
            walk_at "go"
            refine r_getS S.row rg_G4 ?_
            walk_at "go"
            refine ⟨b, vG, G, rfl, S.bag, S.am 0 rfl rfl, iG, dG, fun vD D H12 aD iD dD hD b12 n12 => ?_⟩
            have S1 := (S.bg b12 n12).add aD
            clear S
            walk_at "go"
            refine r_putS S1.row (show 7 < 1000 by decide) ?_
            rw [rq_door]
            have S2 : FS K H (upd H12 d (.dK (RW s (.ref ra) kd x ++ [(.inr "way", .int (1 + y)), (.inr "g", vp), (.inr "G", vG), (.inr "door", vD)]))) b l d rs _ _ _ _ _ := S1.put
            generalize upd H12 d (.dK (RW s (.ref ra) kd x ++ [(.inr "way", .int (1 + y)), (.inr "g", vp), (.inr "G", vG), (.inr "door", vD)])) = H13 at *
            clear S1 b12 n12
            walk_at "go"
            refine ⟨b, d, _, vp, vG, qp, G, rfl, S2.bag, S2.row, rg_g5, rg_G5, S2.am 2 rfl rfl, S2.am 1 rfl rfl, ip, iG, hG, fun vm man H14 hm hman b14 n14 => ?_⟩
            have S3 := (S2.bg b14 n14).addM hm
            clear S2
            walk_at "go"
            refine r_putS S3.row (show 8 < 1000 by decide) ?_
            rw [rq_wish]
            have S4 : FS K H (upd H14 d (.dK (RW s (.ref ra) kd x ++ [(.inr "way", .int (1 + y)), (.inr "g", vp), (.inr "G", vG), (.inr "door", vD), (.inr "wish", vm)]))) b l d rs _ _ _ _ _ := S3.put
            generalize upd H14 d (.dK (RW s (.ref ra) kd x ++ [(.inr "way", .int (1 + y)), (.inr "g", vp), (.inr "G", vG), (.inr "door", vD), (.inr "wish", vm)])) = H15 at *
            clear S3 b14 n14
            walk_at "go"
            refine r_mid (fun σ' H' => ∃ u8 o, σ' = [some (V.ref b.a), some (V.str s), some (V.ref ra), some (V.ref l), some (V.ref ka), some (V.bl wild), some (V.ref d), some vll, u8, some vp, none] ∧ (wild = false → o = false) ∧ FS K H H' b l d rs (RW s (.ref ra) kd x ++ [(.inr "way", .int (1 + y)), (.inr "g", vp), (.inr "G", vG), (.inr "door", vD), (.inr "wish", vm), (.inr "odd", .bl o)]) [vD, vG, vp] [D, G, qp] [(vm, man)] [(ra, rs.map V.str), (ka, ks.map V.str)]) ?_ ?_
            · cases wild with
              | false =>
                walk_at "run"
                refine r_putS S4.row (show 9 < 1000 by decide) ?_
                rw [rq_odd]
                walk_at "go"
                exact ⟨_, false, rfl, fun _ => rfl, S4.put⟩
              | true =>
                walk_at "run"
                refine k_draw S4.bag (by omega) (by decide) fun y2 H16 y20 y21 b16 n16 => ?_
                have S5 := S4.bg b16 n16
                walk_at "run"
                refine r_putS S5.row (show 9 < 1000 by decide) ?_
                rw [rq_odd]
                walk_at "go"
                exact ⟨_, _, rfl, (fun z => nomatch z), S5.put⟩
            · clear S4
              rintro σ H16 ⟨u8, o, rfl, ho, S⟩
              walk_at "go"
              refine r_putS S.row (show 10 < 1000 by decide) ?_
              rw [rq_size]
              have S1 : FS K H (upd H16 d (.dK (RW s (.ref ra) kd x ++ [(.inr "way", .int (1 + y)), (.inr "g", vp), (.inr "G", vG), (.inr "door", vD), (.inr "wish", vm), (.inr "odd", .bl o), (.inr "size", .non)]))) b l d rs _ _ _ _ _ := S.put
              generalize upd H16 d (.dK (RW s (.ref ra) kd x ++ [(.inr "way", .int (1 + y)), (.inr "g", vp), (.inr "G", vG), (.inr "door", vD), (.inr "wish", vm), (.inr "odd", .bl o), (.inr "size", .non)])) = H17 at *
              clear S
              walk_at "go"
              refine k_some5 (M := 9) rfl S1.bag (by decide) fun v1 q1 H18 a1 i1 d1 b18 n18 => ?_
              have S2 := (S1.bg b18 n18).add a1
              clear S1
              walk_at "go"
              refine k_some5 (M := 9) rfl S2.bag (by decide) fun v2 q2 H19 a2 i2 d2 b19 n19 => ?_
              have S3 := (S2.bg b19 n19).add a2
              clear S2 b18 n18 b19 n19
              walk_at "go"
              rename_i p1 h1 p2 h2 p3 h3 pm hpm
              generalize hG : upd _ pm _ = H20
              have e20 : Ext [] H19 H20 := by rw [← hG]; walk_at "ext"
              have hl : SqL K H20 pm [v1, v2, .ref p1, .ref p2, .ref p3] := by rw [← hG]; exact lstS
              have hmenu : Ams K H20 [v1, v2, .ref p1, .ref p2, .ref p3] [q1, q2, 20, 1000, 0] := by
                refine Ams.cons ((S3.am 1 rfl rfl).x0 e20) (Ams.cons ((S3.am 0 rfl rfl).x0 e20) (Ams.cons ⟨p1, rfl, ?_⟩ (Ams.cons ⟨p2, rfl, ?_⟩ (Ams.cons ⟨p3, rfl, ?_⟩ Ams.nil))))
                · rw [← hG]; show SqT K _ p1 [.int 20, .int 1]; walk_at "sq"
                · rw [← hG]; show SqT K _ p2 [.int 1000, .int 1]; walk_at "sq"
                · rw [← hG]; show SqT K _ p3 [.int 0, .int 1]; walk_at "sq"
              have imenu : ∀ q ∈ [q1, q2, 20, 1000, 0], In 30 1000 q := fun q hq => by
                simp only [List.mem_cons, List.not_mem_nil, or_false] at hq
                rcases hq with rfl | rfl | rfl | rfl | rfl
                · exact i1.most (by decide)
                · exact i2.most (by decide)
                · exact In.nat (n := 20) (by decide)
                · exact In.nat (n := 1000) (by decide)
                · exact In.zero
              have S4 := S3.x0 e20
              have nbm : b.a ≠ pm := BagAt.ne (S3.bag.x0 (by walk_at "ext")) hpm
              clear hG h1 h2 h3 hpm e20 S3
              refine ⟨ra, rfl, ⟨_, (S4.lst (ra, rs.map V.str) (by simp)).1⟩, fun B hB => ?_⟩
              have nbB := S4.bag.ne hB
              refine r_lcL (xs := rs.map V.str) (fun i H' => ∃ acc qs', H' B = some (.lst acc) ∧ qs'.length = i ∧ Ams K H' acc qs' ∧ (∀ q ∈ qs', In 30 1000 q) ∧ BagAt K H' b ∧ Ext [b.a] H20 H') ⟨[], [], upd_same, rfl, Ams.nil, (fun _ z => nomatch z), S4.bag.new hB, Ext.refl.new hB⟩ ?_ ?_ ?_
              · rintro i H' hi ⟨acc, qs', _, _, _, _, b', e'⟩
                exact ((S4.bg b' e').lst (ra, rs.map V.str) (by simp)).1
              · rintro j z H21 hz ⟨acc, qs', f1, f2, f3, f4, b21, e21⟩
                have hj : j < rs.length := by have := (List.getElem?_eq_some_iff.mp hz).1; rwa [List.length_map] at this
                have := ok.l5
                walk_at "go"
                refine ⟨rfl, ?_⟩
                walk_at "go"
                refine ⟨b, pm, _, rfl, b21, lstX e21 hl fun z => nbm (List.mem_singleton.mp z).symm, nbm, (show 0 < 5 by decide), (show 5 ≤ 4000 by decide), fun i x H22 hx b22 n22 => ?_⟩
                obtain ⟨q, hq, hxq⟩ := hmenu.at_ hx
                have hB22 := n22 _ _ f1 fun z => nbB (List.mem_singleton.mp z).symm
                have f1l := f3.1
                refine ⟨acc, hB22, Nat.lt_of_le_of_lt (by omega : acc.length ≤ 5) (by decide), acc ++ [x], qs' ++ [q], upd_same, by rw [List.length_append, f2]; rfl, (((f3.b b21 n22).w hB22).app (Ams.cons (((hxq.b S4.bag e21).b b21 n22).w hB22) Ams.nil)), fun q' hq' => ?_, S4.bag.own hB b22, (e21.trans n22).own hB⟩
                rcases List.mem_append.mp hq' with h | h
                · exact f4 _ h
                · rw [List.mem_singleton.mp h]; exact imenu _ (List.mem_of_getElem? hq)
              · rintro H21 ⟨bs, qb, f1, f2, f3, f4, b21, e21⟩
                have S5 := (S4.bg b21 e21).addL (.inl (.inl f1) : SqL K H21 B bs) nbB
                rw [List.length_map] at f2
                clear S4 hmenu hl imenu e21 b21
                walk_at "go"
                refine r_putS S5.row (show 11 < 1000 by decide) ?_
                rw [rq_bufs]
                have nB := no_dk S5.row
                have S6 : FS K H (upd H21 d (.dK (RowFs s (.ref ra) kd x (1 + y) vp vG vD vm o .non (.ref B)))) b l d rs _ _ _ _ _ := S5.put
                have f3' : Ams K (upd H21 d (.dK (RowFs s (.ref ra) kd x (1 + y) vp vG vD vm o .non (.ref B)))) bs qb := AmsF (Ext.refl.at_ List.mem_cons_self) nB.1 f3
                generalize upd H21 d (.dK (RowFs s (.ref ra) kd x (1 + y) vp vG vD vm o .non (.ref B))) = H22 at *
                clear S5 nB f1 f3
                have S7 : FS K H H22 b l d rs (RowFs s (.ref ra) kd x (1 + y) vp vG vD vm o .non (.ref B)) [vD, vG, vp] [D, G, qp] [(vm, man)] [(B, bs), (ra, rs.map V.str), (ka, ks.map V.str)] := ⟨S6.bag, S6.row, S6.nld, Ams.cons (S6.am 2 rfl rfl) (Ams.cons (S6.am 3 rfl rfl) (Ams.cons (S6.am 4 rfl rfl) Ams.nil)), S6.mn, S6.lst, S6.lf, S6.fr, S6.ext⟩
                clear S6
                have fin : ∀ {H' : Hp} {vz : V} {z : SizeD} {ba : Addr} {xs : List V} {qs2 : List Rat}, FS K H H' b l d rs (RowFs s (.ref ra) kd x (1 + y) vp vG vD vm o vz (.ref ba)) [vD, vG, vp] [D, G, qp] [(vm, man)] [(ba, xs), (ra, rs.map V.str), (ka, ks.map V.str)] → Ams K H' xs qs2 → qs2.length = rs.length → (∀ q ∈ qs2, BufQ q) → SizeIs K H' vz z → kindOk kd z → (∀ q, z = .win q → In 30 1000 q) → Q (.ref d) H' := fun {H' vz z ba xs qs2} S hx hlen hbq hz hkz hzi => by
                  refine k d ⟨s, rs, _, kd, _, x, qp, G, D, 1 + y, man, o⟩ _ ⟨⟨hs.l6, hs.ok, ok, hlen, hbq, hkz, hw.1, hw.2, ip.sm (by decide) dp, iG.sm (by decide) dG, iD.sm (by decide) dD, hG, hD, by show 1 ≤ 1 + y; omega, by show 1 + y ≤ 20; omega, hman⟩, ip, iG, iD, hzi⟩ rfl rfl hkd ho ⟨ra, _, _, _, vp, vG, vD, vm, S.row, (S.lst (ra, rs.map V.str) (by simp)).1, (S.lst (_, _) (by simp)).1, nra, (S.lst (ba, xs) (by simp)).2, hx, hz, S.am 2 rfl rfl, S.am 1 rfl rfl, S.am 0 rfl rfl, S.mn (vm, man) (by simp)⟩ hd S.bag fun a o' ha hn => S.ext a o' ha fun z => ?_
                  simp only [List.mem_cons, List.not_mem_nil, or_false] at z hn
                  rcases z with z | z | z
                  · exact hn (.inl z)
                  · exact hn (.inr z)
                  · rw [z, hd] at ha; cases ha
                walk_at "go"
                refine r_mid (fun σ' H' => ∃ u8 vz z ba xs qs2, σ' = [some (V.ref b.a), some (V.str s), some (V.ref ra), some (V.ref l), some (V.ref ka), some (V.bl wild), some (V.ref d), some vll, u8, some vp, some (V.ref pm)] ∧ FS K H H' b l d rs (RowFs s (.ref ra) kd x (1 + y) vp vG vD vm o vz (.ref ba)) [vD, vG, vp] [D, G, qp] [(vm, man)] [(ba, xs), (ra, rs.map V.str), (ka, ks.map V.str)] ∧ Ams K H' xs qs2 ∧ qs2.length = rs.length ∧ (∀ q ∈ qs2, BufQ q) ∧ SizeIs K H' vz z ∧ ((kd = "window" ∧ ∃ q, z = .win q ∧ In 30 1000 q) ∨ (kd ≠ "window" ∧ z = .no))) ?_ ?_
                · walk_at "go"
                  refine r_getS S7.row rv_kind ?_
                  walk_at "go"
                  refine r_dec (fun hk1 => ?_) (fun hk1 => ?_)
                  · have hk2 : kd = "window" := by cases hk1; rfl
                    walk_at "go"
                    refine k_some5 (M := 9) rfl S7.bag (by decide) fun v3 q3 H23 a3 i3 d3 b23 n23 => ?_
                    have S8 := (S7.bg b23 n23)
                    have f4' := f3'.b S7.bag n23
                    clear S7 f3'
                    walk_at "go"
                    rename_i p4 h4 p5 h5 p6 h6 pz hpz
                    generalize hG : upd _ pz _ = H24
                    have e24 : Ext [] H23 H24 := by rw [← hG]; walk_at "ext"
                    have hl2 : SqL K H24 pz [v3, .ref p4, .ref p5, .ref p6] := by rw [← hG]; exact lstS
                    have hmz : Ams K H24 [v3, .ref p4, .ref p5, .ref p6] [q3, 12, 1000, 0] := by
                      refine Ams.cons (a3.x0 e24) (Ams.cons ⟨p4, rfl, ?_⟩ (Ams.cons ⟨p5, rfl, ?_⟩ (Ams.cons ⟨p6, rfl, ?_⟩ Ams.nil)))
                      · rw [← hG]; show SqT K _ p4 [.int 12, .int 1]; walk_at "sq"
                      · rw [← hG]; show SqT K _ p5 [.int 1000, .int 1]; walk_at "sq"
                      · rw [← hG]; show SqT K _ p6 [.int 0, .int 1]; walk_at "sq"
                    have imz : ∀ q ∈ [q3, 12, 1000, 0], In 30 1000 q := fun q hq => by
                      simp only [List.mem_cons, List.not_mem_nil, or_false] at hq
                      rcases hq with rfl | rfl | rfl | rfl
                      · exact i3.most (by decide)
                      · exact In.nat (n := 12) (by decide)
                      · exact In.nat (n := 1000) (by decide)
                      · exact In.zero
                    have S9 := S8.x0 e24
                    have f5 := f4'.x0 e24
                    have nbz : b.a ≠ pz := BagAt.ne (S8.bag.x0 (by walk_at "ext")) hpz
                    clear hG h4 h5 h6 hpz S8 f4' e24
                    refine ⟨b, pz, _, rfl, S9.bag, hl2, nbz, (show 0 < 4 by decide), (show 4 ≤ 4000 by decide), fun i vz H25 hx b25 n25 => ?_⟩
                    obtain ⟨qz, hqz, haz⟩ := hmz.at_ hx
                    have iz := imz _ (List.mem_of_getElem? hqz)
                    have S10 := (S9.bg b25 n25).add (haz.b S9.bag n25)
                    have f6 := f5.b S9.bag n25
                    clear S9 f5 hmz hl2 imz
                    walk_at "go"
                    refine r_putS S10.row (show 12 < 1000 by decide) ?_
                    rw [rp_size]
                    have nB2 := no_dk S10.row
                    have S11 : FS K H (upd H25 d (.dK (RowFs s (.ref ra) kd x (1 + y) vp vG vD vm o vz (.ref B)))) b l d rs _ _ _ _ _ := S10.put
                    have f7 : Ams K (upd H25 d (.dK (RowFs s (.ref ra) kd x (1 + y) vp vG vD vm o vz (.ref B)))) bs qb := AmsF (Ext.refl.at_ List.mem_cons_self) nB2.1 f6
                    generalize upd H25 d (.dK (RowFs s (.ref ra) kd x (1 + y) vp vG vD vm o vz (.ref B))) = H26 at *
                    clear S10 nB2 f6
                    walk_at "go"
                    refine r_getS S11.row rv_bufs ?_
                    refine ⟨B, rfl, ⟨_, (S11.lst (B, bs) (by simp)).1⟩, fun B2 hB2 => ?_⟩
                    have nb2 := S11.bag.ne hB2
                    refine r_lcL (xs := bs) (fun i H' => ∃ acc qs', H' B2 = some (.lst acc) ∧ qs'.length = i ∧ Ams K H' acc qs' ∧ (∀ q ∈ qs', In 900 2000 q) ∧ BagAt K H' b ∧ Ext [b.a] H26 H') ⟨[], [], upd_same, rfl, Ams.nil, (fun _ z => nomatch z), S11.bag.new hB2, Ext.refl.new hB2⟩ ?_ ?_ ?_
                    · rintro i H' hi ⟨acc, qs', _, _, _, _, b', e'⟩
                      exact ((S11.bg b' e').lst (B, bs) (by simp)).1
                    · rintro j z H27 hz ⟨acc, qs', g1, g2, g3, g4, b27, e27⟩
                      obtain ⟨qo, hqo, hao⟩ := f7.at_ hz
                      have io := f4 _ (List.mem_of_getElem? hqo)
                      have hj : j < bs.length := (List.getElem?_eq_some_iff.mp hz).1
                      have hbl := f7.1
                      have := ok.l5
                      have S12 := S11.bg b27 e27
                      walk_at "go"
                      refine ⟨rfl, ?_⟩
                      walk_at "go"
                      refine r_getS S12.row rv_size ?_
                      walk_at "go"
                      refine k_part b27 (hao.b S11.bag e27) io.nn (in30z io z1000) fun vq qr H28 aq pq b28 n28 => ?_
                      obtain ⟨r0, r1⟩ := pq.le io.nn
                      have ir : In (30 * 30) 1000 qr := pq.in_ io
                      walk_at "go"
                      refine k_two ((S12.am 0 rfl rfl).b b27 n28) aq (in30z iz z1000) (inz ir (by decide) (by decide) (by decide)) iz.nn r0 trivial fun vs_ H29 e29 as_ => ?_
                      have i2 : In 900 2000 (qz + qr) := (iz.up (by decide : 30 ∣ 900)).add ir
                      have g29 := e29 _ _ (n28 _ _ g1 fun z => nb2 (List.mem_singleton.mp z).symm) fun z => nomatch z
                      have gl := g3.1
                      refine ⟨acc, g29, Nat.lt_of_le_of_lt (by omega : acc.length ≤ 5) (by decide), acc ++ [vs_], qs' ++ [qz + qr], upd_same, by rw [List.length_append, g2]; rfl, ((((g3.b b27 n28).x0 e29).w g29).app (Ams.cons (as_.w g29) Ams.nil)), fun q' hq' => ?_, S11.bag.own hB2 (b28.x0 e29), ((e27.trans n28).trans e29.of0).own hB2⟩
                      rcases List.mem_append.mp hq' with h | h
                      · exact g4 _ h
                      · rw [List.mem_singleton.mp h]; exact i2
                    · rintro H27 ⟨bs2, qb2, g1, g2, g3, g4, b27, e27⟩
                      have S12 := (S11.bg b27 e27).addL (.inl (.inl g1) : SqL K H27 B2 bs2) nb2
                      have hbl := f7.1
                      clear S11
                      walk_at "go"
                      refine r_putS S12.row (show 12 < 1000 by decide) ?_
                      rw [rp_bufs]
                      have nB2 := no_dk S12.row
                      have S13 : FS K H (upd H27 d (.dK (RowFs s (.ref ra) kd x (1 + y) vp vG vD vm o vz (.ref B2)))) b l d rs _ _ _ _ _ := S12.put
                      have g5 : Ams K (upd H27 d (.dK (RowFs s (.ref ra) kd x (1 + y) vp vG vD vm o vz (.ref B2)))) bs2 qb2 := AmsF (Ext.refl.at_ List.mem_cons_self) nB2.1 g3
                      walk_at "go"
                      refine ⟨_, vz, .win qz, B2, bs2, qb2, rfl, ⟨S13.bag, S13.row, S13.nld, Ams.cons (S13.am 1 rfl rfl) (Ams.cons (S13.am 2 rfl rfl) (Ams.cons (S13.am 3 rfl rfl) Ams.nil)), S13.mn, fun p hp => ?_, S13.lf, S13.fr, S13.ext⟩, g5, by omega, fun q hq => ?_, ⟨S13.am 0 rfl rfl, ?_⟩, .inl ⟨hk2, qz, rfl, iz⟩⟩
                      · simp only [List.mem_cons, List.not_mem_nil, or_false] at hp
                        rcases hp with rfl | rfl | rfl
                        · exact S13.lst _ (by simp)
                        · exact S13.lst _ (by simp)
                        · exact S13.lst _ (by simp)
                      · have i := g4 q hq
                        exact ⟨i.nn, Rat.le_trans i.le (by norm_cast), inz i (by decide) (by decide) (by decide)⟩
                      · exact ⟨iz.nn, Rat.le_trans iz.le (by norm_cast), in30z iz z1000⟩
                  · walk_at "go"
                    refine ⟨_, .non, .no, B, bs, qb, rfl, S7, f3', by omega, fun q hq => ?_, rfl, .inr ⟨fun z => hk1 (by rw [z]), rfl⟩⟩
                    have i := f4 q hq
                    exact ⟨i.nn, Rat.le_trans i.le (by norm_cast), in30z i z1000⟩
                · clear S7 f3'
                  rintro σ H23 ⟨u8, vz, z, ba, xs, qs2, rfl, S, hx, hlen, hbq, hz, hcase⟩
                  walk_at "go"
                  refine r_getS S.row rv_kind ?_
                  walk_at "go"
                  refine r_dec (fun hk1 => ?_) (fun hk1 => ?_)
                  · have hk2 : kd = "probe" := by cases hk1; rfl
                    walk_at "go"
                    refine k_draw S.bag (by omega) (by decide) fun y3 H24 y30 y31 b24 n24 => ?_
                    have S1 := S.bg b24 n24
                    have hx1 := hx.b S.bag n24
                    walk_at "go"
                    refine r_putS S1.row (show 12 < 1000 by decide) ?_
                    rw [rp_size]
                    have nB2 := no_dk S1.row
                    walk_at "go"
                    refine fin (z := .tries (1 + y3)) S1.put (AmsF (Ext.refl.at_ List.mem_cons_self) nB2.1 hx1) hlen hbq ⟨rfl, by omega, by omega⟩ (by rw [hk2]; first | done | rfl) (fun q z => nomatch z)
                  · walk_at "go"
                    refine fin S hx hlen hbq hz ?_ fun q hq => ?_
                    · rcases hcase with ⟨e, q, rfl, _⟩ | ⟨e, rfl⟩
                      · exact e
                      · rcases hk kd hkd with h | h | h | h
                        · exact .inl h
                        · exact .inr h
                        · exact absurd h e
                        · exact absurd (by rw [h]) hk1
                    · rcases hcase with ⟨e, q', rfl, hi⟩ | ⟨e, rfl⟩
                      · cases hq; exact hi
                      · cases hq
end
end Yk

set_option maxHeartbeats 16000000
namespace Yk
open PySem PySem.Spec PyProof.Rows L2

local macro_rules | `(tactic| walk_at "st") => `(tactic| first
  | with_reducible refine' r_tAt ?_
  | ((with_reducible refine' r_fld ?h1 ?h2 ?h3); (case h1 => first | assumption | exact upd_same); (case h2 => first | walk_at "lk" | rfl))
  | with_reducible refine' r_sAt ?_
  | ((with_reducible refine' r_putU ?h1 ?h2); (case h1 => (repeat refine putF_lt ?_); decide))
  | ((with_reducible refine' r_put ?h1 ?h2 ?h3); (case h1 => first | assumption | exact upd_same); (case h2 => (repeat refine putF_lt ?_); decide))
  | with_reducible refine' r_tMt ?_
  | ((with_reducible refine' r_met ?h1 ?h2 ?h3); (case h1 => first | assumption | exact upd_same); (case h2 => first | walk_at "lk" | rfl))
  | with_reducible refine' r_tCr ?_
  | with_reducible refine' r_tCrK ?_
  | with_reducible refine' r_chain ?_)
local macro_rules | `(tactic| walk_at "st") => `(tactic| first
  | with_reducible refine' r_dget ?_
  | with_reducible refine' r_dc ?_
  | with_reducible refine' r_iVals ?_
  | with_reducible refine' r_dnotin ?_
  | with_reducible refine' r_din ?_
  | with_reducible refine' r_iItems ?_
  | with_reducible refine' r_iKeysT ?_
  | with_reducible refine' r_tget1 ?_
  | with_reducible refine' r_tget2 ?_
  | with_reducible refine' r_dput ?_
  | with_reducible refine' r_tPr ?_
  | ((with_reducible refine' r_prp2 ?h1 ?h2); (case h1 => first | assumption | exact upd_same))
  | with_reducible refine' r_par3 ?_
  | ((with_reducible refine' r_dnT ?_); (intro np hnp))
  | ((with_reducible refine' r_dnK ?_); (intro np hnp)))
/-! Flows that the law draws; senders of windows. -/
local macro_rules | `(tactic| walk_at "lk") => `(tactic| first | with_reducible exact lk_Flow_name | with_reducible exact lk_Flow_route | with_reducible exact lk_Flow_buffers | with_reducible exact lk_Flow_kind | with_reducible exact lk_Flow_size | with_reducible exact lk_Flow_weight | with_reducible exact lk_Flow_least | with_reducible exact lk_Flow_cap | with_reducible exact lk_Flow_door | with_reducible exact lk_Flow_way | with_reducible exact lk_Flow_manner | with_reducible exact lk_Flow_strange | with_reducible exact lk_Flow_last)
section
variable {K : PySem.W.Frag} {H H1 : Hp} {b : Bag} {d : Addr} {F : FlowD}
theorem FRowAt.x0 (h : FRowAt K H b d F) (e : Ext [] H H1) : FRowAt K H1 b d F := by
  obtain ⟨ra, ba, xs, vz, vg, vG, vD, vm, h0, h1, h2, n1, n2, h3, h4, h5, h6, h7, h8⟩ := h
  exact ⟨ra, ba, xs, vz, vg, vG, vD, vm, e _ _ h0 (fun z => nomatch z), lst0 e h1, lst0 e h2, n1, n2, h3.x0 e, h4.x0 e, h5.x0 e, h6.x0 e, h7.x0 e, h8.x0 e⟩
theorem FRowAt.bg (h : FRowAt K H b d F) (hb : BagAt K H b) (e : Ext [b.a] H H1) : FRowAt K H1 b d F := by
  obtain ⟨ra, ba, xs, vz, vg, vG, vD, vm, h0, h1, h2, n1, n2, h3, h4, h5, h6, h7, h8⟩ := h
  have nd := bag_ne_dk hb h0
  exact ⟨ra, ba, xs, vz, vg, vG, vD, vm, e _ _ h0 (fun z => nd (List.mem_singleton.mp z)), lstX e h1 (fun z => n1 (List.mem_singleton.mp z).symm), lstX e h2 (fun z => n2 (List.mem_singleton.mp z).symm), n1, n2, h3.b hb e, h4.b hb e, h5.b hb e, h6.b hb e, h7.b hb e, ManIs.x e h8 fun a ha => by rw [List.mem_singleton.mp ha]; exact hb.lst⟩
theorem FRowAt.f {S : List Addr} (h : FRowAt K H b d F) (e : Ext S H H1) (ns : NoTup H S) (nl : NoLst H S) (hd : d ∉ S) : FRowAt K H1 b d F := by
  obtain ⟨ra, ba, xs, vz, vg, vG, vD, vm, h0, h1, h2, n1, n2, h3, h4, h5, h6, h7, h8⟩ := h
  exact ⟨ra, ba, xs, vz, vg, vG, vD, vm, e _ _ h0 hd, lstF e h1 nl, lstF e h2 nl, n1, n2, AmsF e ns h3, h4.f e ns, h5.f e ns, h6.f e ns, h7.f e ns, h8.f e ns⟩
theorem FRowAt.row (h : FRowAt K H b d F) : ∃ L vz vg vG vD vm, H d = some (.dK L) ∧ L.length < 1000 ∧ valV L (.inr "name") = some (.str F.n) ∧ valV L (.inr "kind") = some (.str F.d) ∧ valV L (.inr "w") = some (.int F.w) ∧ valV L (.inr "way") = some (.int F.y) ∧ valV L (.inr "odd") = some (.bl F.b) ∧
    valV L (.inr "g") = some vg ∧ Am K H vg F.l ∧ valV L (.inr "G") = some vG ∧ Am K H vG F.c ∧ valV L (.inr "door") = some vD ∧ Am K H vD F.g ∧ valV L (.inr "wish") = some vm ∧ ManIs K H vm F.man ∧ valV L (.inr "size") = some vz ∧ SizeIs K H vz F.z := by
  obtain ⟨ra, ba, xs, vz, vg, vG, vD, vm, h0, h1, h2, n1, n2, h3, h4, h5, h6, h7, h8⟩ := h
  exact ⟨_, vz, vg, vG, vD, vm, h0, show 12 < 1000 by decide, rv_name, rv_kind, rv_w, rv_way, rv_odd, rv_g, h5, rv_G, h6, rv_door, h7, rv_wish, h8, rv_size, h4⟩
theorem FRowAt.putW {L : List (Key × V)} {v : V} {man : Option (Rat × Rat)} (h : FRowAt K H b d F) (hL : H d = some (.dK L)) (hm : ManIs K H v man) : FRowAt K (upd H d (.dK (putK L (.inr "wish") v))) b d { F with man := man } := by
  obtain ⟨ra, ba, xs, vz, vg, vG, vD, vm, h0, h1, h2, n1, n2, h3, h4, h5, h6, h7, h8⟩ := h
  rw [h0] at hL
  cases hL
  rw [rp_wish]
  have n := no_dk h0
  have e : Ext [d] H (upd H d (.dK (RowFs F.n (.ref ra) F.d F.w F.y vg vG vD v F.b vz (.ref ba)))) := Ext.refl.at_ List.mem_cons_self
  exact ⟨ra, ba, xs, vz, vg, vG, vD, v, upd_same, lstF e h1 n.2, lstF e h2 n.2, n1, n2, AmsF e n.1 h3, h4.f e n.1, h5.f e n.1, h6.f e n.1, h7.f e n.1, hm.f e n.1⟩
theorem FRowAt.putG {L : List (Key × V)} {v : V} {q : Rat} (h : FRowAt K H b d F) (hL : H d = some (.dK L)) (hm : Am K H v q) : FRowAt K (upd H d (.dK (putK L (.inr "G") v))) b d { F with c := q } := by
  obtain ⟨ra, ba, xs, vz, vg, vG, vD, vm, h0, h1, h2, n1, n2, h3, h4, h5, h6, h7, h8⟩ := h
  rw [h0] at hL
  cases hL
  rw [rp_G]
  have n := no_dk h0
  have e : Ext [d] H (upd H d (.dK (RowFs F.n (.ref ra) F.d F.w F.y vg v vD vm F.b vz (.ref ba)))) := Ext.refl.at_ List.mem_cons_self
  exact ⟨ra, ba, xs, vz, vg, v, vD, vm, upd_same, lstF e h1 n.2, lstF e h2 n.2, n1, n2, AmsF e n.1 h3, h4.f e n.1, h5.f e n.1, hm.f e n.1, h7.f e n.1, h8.f e n.1⟩
theorem FRowAt.putD {L : List (Key × V)} {v : V} {q : Rat} (h : FRowAt K H b d F) (hL : H d = some (.dK L)) (hm : Am K H v q) : FRowAt K (upd H d (.dK (putK L (.inr "door") v))) b d { F with g := q } := by
  obtain ⟨ra, ba, xs, vz, vg, vG, vD, vm, h0, h1, h2, n1, n2, h3, h4, h5, h6, h7, h8⟩ := h
  rw [h0] at hL
  cases hL
  rw [rp_door]
  have n := no_dk h0
  have e : Ext [d] H (upd H d (.dK (RowFs F.n (.ref ra) F.d F.w F.y vg vG v vm F.b vz (.ref ba)))) := Ext.refl.at_ List.mem_cons_self
  exact ⟨ra, ba, xs, vz, vg, vG, v, vm, upd_same, lstF e h1 n.2, lstF e h2 n.2, n1, n2, AmsF e n.1 h3, h4.f e n.1, h5.f e n.1, h6.f e n.1, hm.f e n.1, h8.f e n.1⟩
theorem FRowAt.dk (h : FRowAt K H b d F) : ∃ L, H d = some (.dK L) ∧ L.length < 1000 := let ⟨L, _, _, _, _, _, h, l, _⟩ := h.row; ⟨L, h, l⟩
end
section
variable {P : Program} {w : World} {K : PySem.W.Frag} {mg : Str → Option Value} {base : Heap} {f : Addr} {fd : FuncData}
def spMade (cF : Addr) (K : PySem.W.Frag) : Sp := fun vs H Q _ => ∃ (b : Bag) (d : Addr) (F : FlowD), vs = [.ref d] ∧ FRowAt K H b d F ∧ FRowOk F ∧ ∀ v H', Ext [] H H' → FlowAt cF K H' v F → (∃ a, v = .ref a ∧ H a = none) → Q v H'
abbrev s_law_made_flow : Stmt := top 68
theorem c_law_made_flow : FnScope ["_law_row"] ["_law_row"] (defScope s_law_made_flow) := ⟨rfl, rfl, rfl, by decide +kernel, rfl, by decide +kernel, by decide +kernel⟩
theorem f_law_made_flow (F : FunD K "_law_made_flow" "_law_made_flow" (defArgs s_law_made_flow) (defBody s_law_made_flow) (defScope s_law_made_flow) [] [] f fd) (hm : mg "_law_made_flow" = some (.ref f)) {cF : Addr} (KFlow_3_kind_size_weight_least_cap_door_way_manner_strange : CrK P w K mg base 6 "Flow" cF 3 ["kind", "size", "weight", "least", "cap", "door", "way", "manner", "strange"] (fun vs zs => vs ++ zs) (spFlowInit cF K)) : Fn P w K mg base 8 "_law_made_flow" (spMade cF K) := by
  refine fn_def F hm c_law_made_flow (fun vs H Q E h => ?_) (fun _ _ _ _ _ _ us hl => match us, hl with | [_], _ => rfl) (fun cdv A outer s H vs Q E hr h => ?_)
  · obtain ⟨b, d, F, rfl, _⟩ := h
    rfl
  · obtain ⟨b, d, F, rfl, ⟨ra, ba, xs, vz, vl, vc, vg, vm, h0, hr1, hb, _, _, hq, hz, hl, hc, hg, hm1⟩, ok, k⟩ := h
    have nd := c_law_made_flow.nd
    refine ⟨_, (pss_one (ps_ret (pe_crK KFlow_3_kind_size_weight_least_cap_door_way_manner_strange (hr.mono (by decide)) (pa_cons (pe_dget (hu_of hr) (pv 0) pe_str (fun _ _ => rfl)) (pa_cons (pe_dget (hu_of hr) (pv 0) pe_str (fun _ _ => rfl)) (pa_cons (pe_dget (hu_of hr) (pv 0) pe_str (fun _ _ => rfl)) pa_nil))) (pk_cons (pe_dget (hu_of hr) (pv 0) pe_str (fun _ _ => rfl)) (pk_cons (pe_dget (hu_of hr) (pv 0) pe_str (fun _ _ => rfl)) (pk_cons (pe_dget (hu_of hr) (pv 0) pe_str (fun _ _ => rfl)) (pk_cons (pe_dget (hu_of hr) (pv 0) pe_str (fun _ _ => rfl)) (pk_cons (pe_dget (hu_of hr) (pv 0) pe_str (fun _ _ => rfl)) (pk_cons (pe_dget (hu_of hr) (pv 0) pe_str (fun _ _ => rfl)) (pk_cons (pe_dget (hu_of hr) (pv 0) pe_str (fun _ _ => rfl)) (pk_cons (pe_dget (hu_of hr) (pv 0) pe_str (fun _ _ => rfl)) (pk_cons (pe_dget (hu_of hr) (pv 0) pe_str (fun _ _ => rfl)) pk_nil)))))))))))), ?_⟩
    show (_ : TS) _ [some _] _
    try dsimp only [cxOf, Cx.nox]
    walk_at "go"
    refine r_getS h0 rv_name ?_
    walk_at "go"
    refine r_getS h0 rv_route ?_
    walk_at "go"
    refine r_getS h0 rv_bufs ?_
    walk_at "go"
    refine r_getS h0 rv_kind ?_
    walk_at "go"
    refine r_getS h0 rv_size ?_
    walk_at "go"
    refine r_getS h0 rv_w ?_
    walk_at "go"
    refine r_getS h0 rv_g ?_
    walk_at "go"
    refine r_getS h0 rv_G ?_
    walk_at "go"
    refine r_getS h0 rv_door ?_
    walk_at "go"
    refine r_getS h0 rv_way ?_
    walk_at "go"
    refine r_getS h0 rv_wish ?_
    walk_at "go"
    refine r_getS h0 rv_odd ?_
    walk_at "go"
    refine ⟨rfl, rfl, fun x dx nx ndx nex => ?_⟩
    have hf : upd H dx (.own x) x = none := by rw [upd_ne nex.symm]; exact nx
    have e : Ext [] H (upd (upd H dx (.own x)) x (.ins cF dx [])) := (Ext.refl.new ndx).new hf
    refine ⟨x, dx, ra, ba, xs, vz, vl, vc, vg, vm, F, rfl, upd_same, ok.ok, .inl (lst0 e hr1), .inl (lst0 e hb), hq.x0 e, hz.x0 e, hl.x0 e, hc.x0 e, hg.x0 e, hm1.x0 e, fun H' t1 t2 e2 hx s1 s2 => ⟨rfl, ?_⟩⟩
    have e3 : Ext [] H H' := fun b o hb _ => by
      have hbx : b ∉ [x] := fun z => by rw [List.mem_singleton.mp z, nx] at hb; cases hb
      exact e2 _ _ (e _ _ hb fun z => nomatch z) hbx
    exact k _ _ e3 ⟨x, dx, t1, t2, xs, vz, vl, vc, vg, vm, rfl, hx, s1, s2, hq.x0 e3, hz.x0 e3, hl.x0 e3, hc.x0 e3, hg.x0 e3, hm1.x0 e3⟩ ⟨x, rfl, nx⟩
def spWindow (K : PySem.W.Frag) : Sp := fun vs H Q _ => ∃ (b : Bag), vs = [.ref b.a] ∧ BagAt K H b ∧ ∀ d F p q H', FRowOk F → F.d = "window" → F.z = .win q → F.man = some p → FRowAt K H' b d F → BagAt K H' b → Ext [b.a] H H' → Q (.ref d) H'
abbrev s_law_window : Stmt := top 69
theorem c_law_window : FnScope ["_law_bag_here", "_law_left", "_law_row"] ["_law_bag_here"] (defScope s_law_window) := ⟨rfl, rfl, rfl, by decide +kernel, rfl, by decide +kernel, by decide +kernel⟩
theorem f_law_window (F : FunD K "_law_window" "_law_window" (defArgs s_law_window) (defBody s_law_window) (defScope s_law_window) [] [] f fd) (hm : mg "_law_window" = some (.ref f)) (T : Bt mg) (F_law_draw : Fn P w K mg base 1 "_law_draw" (spDraw K)) (G_law_some : Fn P w K mg base 3 "_law_some" (spSome5 K)) (F_law_name : Fn P w K mg base 3 "_law_name" (spName K)) (F_law_above : Fn P w K mg base 4 "_law_above" (spAbove K)) (F_law_flow : Fn P w K mg base 5 "_law_flow" (spFlow K)) : Fn P w K mg base 6 "_law_window" (spWindow K) := by
  refine fn_def F hm c_law_window (fun vs H Q E h => ?_) (fun _ _ _ _ _ _ us hl => match us, hl with | [_], _ => rfl) (fun cdv A outer s H vs Q E hr h => ?_)
  · obtain ⟨b, rfl, _⟩ := h
    rfl
  · obtain ⟨b, rfl, hb, k⟩ := h
    have nd := c_law_window.nd
    refine ⟨_, (pss_cons (ps_set (i := 1) nd rfl (by first | exact Or.inl rfl | exact Or.inr rfl) (pe_disp (pps_cons pe_str (pe_fn G_law_some (hr.mono (by decide)) (pa_cons (pv 0) (pa_cons pe_int pa_nil))) pps_nil) rfl rfl (by simp) (by decide)))
      (pss_cons (ps_set (i := 2) nd rfl (by first | exact Or.inl rfl | exact Or.inr rfl) (pe_fn F_law_flow (hr.mono (by decide)) (pa_cons (pv 0) (pa_cons (pe_fn F_law_name (hr.mono (by decide)) (pa_cons (pv 0) (pa_cons (pe_lst (pa_cons pe_str pa_nil)) pa_nil))) (pa_cons (pe_lst (pa_cons pe_str pa_nil)) (pa_cons (pv 1) (pa_cons (pe_lst (pa_cons pe_str pa_nil)) (pa_cons pe_bl pa_nil))))))))
      (pss_mid (ps_if (pt_cmpR (op_eqD hr.units) (pe_dget (hu_of hr) (pv 2) pe_str (fun _ _ => rfl)) (pe_tup pa_nil) (nomark _))
        (pss_one (ps_dput (hu_of hr) (pv 2) pe_str (pe_tup (pa_cons (pe_dget (hu_of hr) (pv 2) pe_str (fun _ _ => rfl)) (pa_cons (pe_dget (hu_of hr) (pv 2) pe_str (fun _ _ => rfl)) pa_nil))) (by rfl)))
        pss_nil)
      (pss_cons (ps_if (pt_cmpR op_eq (pe_fn F_law_draw (hr.mono (by decide)) (pa_cons (pv 0) (pa_cons pe_int pa_nil))) pe_int (nomark _))
        (pss_cons (ps_dput (hu_of hr) (pv 2) pe_str (pe_fn F_law_above (hr.mono (by decide)) (pa_cons (pv 0) (pa_cons (pe_dget (hu_of hr) (pv 2) pe_str (fun _ _ => rfl)) pa_nil))) (by rfl))
        (pss_cons (ps_dput (hu_of hr) (pv 2) pe_str (pe_fn F_law_above (hr.mono (by decide)) (pa_cons (pv 0) (pa_cons (pe_dget (hu_of hr) (pv 2) pe_str (fun _ _ => rfl)) pa_nil))) (by rfl))
        (pss_one (ps_dput (hu_of hr) (pv 2) pe_str (pe_tup (pa_cons (pe_dget (hu_of hr) (pv 2) pe_str (fun _ _ => rfl)) (pa_cons (pe_dget (hu_of hr) (pv 2) pe_str (fun _ _ => rfl)) pa_nil))) (by rfl)))))
        pss_nil)
      (pss_one (ps_ret (pv 2))))))), ?_⟩
    show (_ : TS) _ [some _, none, none] _
    try dsimp only [cxOf, Cx.nox]
    walk_at "go"
    refine r_disp fun l hl => ?_
    have b0 : BagAt K (upd H l (.dK [])) b := hb.new hl
    have e0 : Ext [] H (upd H l (.dK [])) := Ext.refl.new hl
    refine r_prC ?_
    walk_at "go"
    refine k_some5 (M := 9) rfl b0 (by decide) fun v q H1 av iv dv b1 n1 => ?_
    have hl1 : H1 l = some (.dK []) := n1 _ _ upd_same fun z => bag_ne_dk b0 upd_same (List.mem_singleton.mp z)
    refine r_prN ?_
    refine ⟨hl1, [(.inr "a", v)], rfl, (show 1 ≤ 15 by decide), ?_⟩
    rw [show mergeK [] [(.inr "a", v)] = [(.inr "a", v)] by kernel_rfl]
    have nn := no_dk hl1
    have e1 : Ext [l] H1 (upd H1 l (.dK [(.inr "a", v)])) := Ext.refl.at_ List.mem_cons_self
    have b2 := b1.f e1 nn.2
    have av2 := av.f e1 nn.1
    have hl2 : upd H1 l (.dK [(.inr "a", v)]) l = some (.dK [(.inr "a", v)]) := upd_same
    have E2 : Ext [b.a, l] H (upd H1 l (.dK [(.inr "a", v)])) := (e0.of0.trans (n1.mono fun x hx => by rw [List.mem_singleton.mp hx]; simp)).trans (e1.mono fun x hx => by rw [List.mem_singleton.mp hx]; simp)
    generalize upd H1 l (.dK [(.inr "a", v)]) = H2 at *
    clear e1 nn hl1 b1 n1 av b0 e0
    walk_at "go"
    rename_i pa hpa
    refine ⟨b, pa, ["a"], rfl, b2.new hpa, lstS, b2.ne hpa, fun s H3 hs b3 n3 => ?_⟩
    have E3 : Ext [b.a] H2 H3 := (Ext.refl.new hpa).trans n3
    have av3 := av2.b b2 E3
    have hl3 : H3 l = some (.dK [(.inr "a", v)]) := E3 _ _ hl2 fun z => bag_ne_dk b2 hl2 (List.mem_singleton.mp z)
    walk_at "go"
    rename_i ra hra ka hka
    generalize hG : upd _ ka _ = H4
    have e4 : Ext [] H3 H4 := by rw [← hG]; walk_at "ext"
    have hr4 : SqL K H4 ra [V.str "a"] := by rw [← hG]; walk_at "sq"
    have hk4 : SqL K H4 ka [V.str "window"] := by rw [← hG]; exact lstS
    have nbr : b.a ≠ ra := b3.ne hra
    have nbk : b.a ≠ ka := BagAt.ne (b3.x0 (by walk_at "ext")) hka
    clear hG hra hka
    have b4 := b3.x0 e4
    refine ⟨b, s, ra, l, ka, ["a"], ["window"], _, [(.inr "a", q)], false, rfl, b4, hs, ⟨by decide, by decide, by simp, fun s hs => by rw [List.mem_singleton.mp hs]; exact ⟨by decide +kernel, by decide +kernel⟩⟩, hr4, nbr, hk4, nbk, by decide, by decide, fun k hk => .inr (.inr (.inl (List.mem_singleton.mp hk))), e4 _ _ hl3 (fun z => nomatch z), (show 1 ≤ 100 by decide), .cons (av3.x0 e4) .nil, fun p hp => by rw [List.mem_singleton.mp hp]; exact iv.most (by decide), fun r hr => by rw [List.mem_singleton.mp hr]; exact ⟨q, by simp [gv]⟩, fun d F H5 ok hn hrs hFd hFb row hd0 b5 e5 => ?_⟩
    have hFd : F.d = "window" := List.mem_singleton.mp hFd
    have E5 : Ext [b.a, l] H H5 := (E2.trans (E3.mono fun x hx => by rw [List.mem_singleton.mp hx]; simp)).trans (e4.of0.trans e5)
    have E6 : Ext [b.a] H H5 := fun a o ha hn => E5 a o ha fun z => by
      simp only [List.mem_cons, List.not_mem_nil, or_false] at z hn
      rcases z with z | z
      · exact hn z
      · rw [z, hl] at ha; cases ha
    have hHd : H d = none := by
      have h2 : H2 d = none := E3.freeS (e4.free hd0) fun a ha => by rw [List.mem_singleton.mp ha]; obtain ⟨l, h⟩ := b3.lst; rw [h]; simp
      cases h1 : H d with
      | none => rfl
      | some o =>
        by_cases hb' : d ∈ [b.a, l]
        · simp only [List.mem_cons, List.not_mem_nil, or_false] at hb'
          rcases hb' with z | z
          · obtain ⟨l', h⟩ := b2.lst; rw [z, h] at h2; cases h2
          · rw [z, hl2] at h2; cases h2
        · rw [E2 d o h1 hb'] at h2; cases h2
    obtain ⟨qz, hz⟩ : ∃ q, F.z = .win q := by
      have kd := ok.ok.kd
      rw [hFd] at kd
      cases h : F.z with
      | no => rw [h] at kd; exact absurd kd (by unfold kindOk; decide +kernel)
      | win q => exact ⟨q, rfl⟩
      | tries n => rw [h] at kd; exact absurd (show ("window" : Str) = "probe" from kd) (by decide +kernel)
    clear E5 e5 e4 hr4 hk4 nbr nbk b4 hl3 av3 E3 hs n3 b3 hl2 av2 E2 b2 hd0 hrs hFb
    have zz : ∀ {q : Rat}, In 30 1000 q → Sz 4000 q := fun i => in30z i z1000
    walk_at "go"
    refine r_mid (fun σ' H' => ∃ F p, σ' = [some (V.ref b.a), some (V.ref l), some (V.ref d)] ∧ FRowOk F ∧ F.d = "window" ∧ F.z = .win qz ∧ F.man = some p ∧ FRowAt K H' b d F ∧ BagAt K H' b ∧ Ext [b.a] H H') ?_ ?_
    · obtain ⟨L, vz, vg, vG, vD, vm, hL, lL, _, _, _, _, _, lg, ag, lG, aG, _, _, lw, hm, _, _⟩ := row.row
      walk_at "go"
      refine r_getS hL lw ?_
      walk_at "go"
      rename_i p hp
      have e7 : Ext [] H5 (upd H5 p (.tup [])) := Ext.refl.new hp
      refine eq_man (hm.x0 e7) tupS ?_
      have hL7 := e7 _ _ hL fun z => nomatch z
      have row7 := row.x0 e7
      have b7 := b5.x0 e7
      have E7 := E6.trans e7.of0
      cases hman : F.man with
      | none =>
        walk_at "run"
        refine r_getS hL7 lg ?_
        walk_at "run"
        refine r_getS hL7 lG ?_
        walk_at "run"
        rename_i p2 hp2
        have e8 : Ext [] (upd H5 p (.tup [])) (upd (upd H5 p (.tup [])) p2 (.tup [vg, vG])) := Ext.refl.new hp2
        have hL8 := e8 _ _ hL7 fun z => nomatch z
        refine r_putS hL8 lL ?_
        walk_at "run"
        have n8 := no_dk hL8
        refine ⟨{ F with man := some (F.l, F.c) }, (F.l, F.c), rfl, ⟨{ ok.ok with mn := fun p hp => ?_ }, ok.il, ok.ic, ok.ig, ok.iz⟩, hFd, hz, rfl, (row7.x0 e8).putW (man := some (F.l, F.c)) hL8 ⟨p2, vg, vG, rfl, tupS, (ag.x0 e7).x0 e8, (aG.x0 e7).x0 e8⟩, (b7.x0 e8).f (Ext.refl.at_ List.mem_cons_self : Ext [d] _ _) n8.2, (E7.trans e8.of0).own hHd⟩
        cases hp
        exact ⟨⟨ok.il.nn, ok.ok.lc, zz ok.il, zz ok.ic⟩, Rat.le_refl, Rat.le_refl⟩
      | some pp =>
        walk_at "run"
        exact ⟨F, pp, rfl, ok, hFd, hz, hman, row7, b7, E7⟩
    · clear row b5 E6 ok hn hFd hz
      rintro σ H6 ⟨F, p, rfl, ok, hFd, hz, hman, row, b6, E6⟩
      walk_at "go"
      refine k_draw b6 (by omega) (by decide) fun y H7 y0 y1 b7 n7 => ?_
      have row7 := row.bg b6 n7
      have E7 := E6.trans n7
      walk_at "go"
      refine r_dec (fun _ => ?_) (fun _ => ?_)
      · obtain ⟨L, vz, vg, vG, vD, vm, hL, lL, _, _, _, _, _, lg, ag, _, _, _, _, _, _, _, _⟩ := row7.row
        walk_at "go"
        refine r_getS hL lg ?_
        walk_at "go"
        refine ⟨b, vg, F.l, rfl, b7, ag, ok.il, ok.ok.sl.den, fun u r H8 au ir dr hlr b8 n8 => ?_⟩
        have row8 := row7.bg b7 n8
        have hL8 : H8 d = some (.dK L) := n8 _ _ hL fun z => bag_ne_dk b7 hL (List.mem_singleton.mp z)
        walk_at "go"
        refine r_putS hL8 lL ?_
        have row9 := row8.putG hL8 au
        have b9 := b8.f (Ext.refl.at_ List.mem_cons_self : Ext [d] H8 (upd H8 d (.dK (putK L (.inr "G") u)))) (no_dk hL8).2
        have E9 := (E7.trans n8).own (o := .dK (putK L (.inr "G") u)) hHd
        generalize upd H8 d (.dK (putK L (.inr "G") u)) = H9 at *
        clear row8 hL8 n8 b8 row7 hL E7
        obtain ⟨L2, vz2, vg2, vG2, vD2, vm2, hL2, lL2, _, _, _, _, _, lg2, ag2, lG2, aG2, _, _, _, _, _, _⟩ := row9.row
        walk_at "go"
        refine r_getS hL2 lG2 ?_
        walk_at "go"
        refine ⟨b, vG2, r, rfl, b9, aG2, ir, dr, fun u2 r2 H10 au2 ir2 dr2 hrr b10 n10 => ?_⟩
        have row10 := row9.bg b9 n10
        have hL10 : H10 d = some (.dK L2) := n10 _ _ hL2 fun z => bag_ne_dk b9 hL2 (List.mem_singleton.mp z)
        walk_at "go"
        refine r_putS hL10 lL2 ?_
        have row11 := row10.putD hL10 au2
        have b11 := b10.f (Ext.refl.at_ List.mem_cons_self : Ext [d] H10 (upd H10 d (.dK (putK L2 (.inr "door") u2)))) (no_dk hL10).2
        have E11 := (E9.trans n10).own (o := .dK (putK L2 (.inr "door") u2)) hHd
        generalize upd H10 d (.dK (putK L2 (.inr "door") u2)) = H11 at *
        clear row10 hL10 n10 b10 row9 hL2 E9
        obtain ⟨L3, vz3, vg3, vG3, vD3, vm3, hL3, lL3, _, _, _, _, _, lg3, ag3, lG3, aG3, _, _, _, _, _, _⟩ := row11.row
        walk_at "go"
        refine r_getS hL3 lg3 ?_
        walk_at "go"
        refine r_getS hL3 lG3 ?_
        walk_at "go"
        rename_i p2 hp2
        have e12 : Ext [] H11 (upd H11 p2 (.tup [vg3, vG3])) := Ext.refl.new hp2
        have hL12 := e12 _ _ hL3 fun z => nomatch z
        refine r_putS hL12 lL3 ?_
        walk_at "go"
        have row12 := (row11.x0 e12).putW (man := some (F.l, r)) hL12 ⟨p2, vg3, vG3, rfl, tupS, ag3.x0 e12, aG3.x0 e12⟩
        refine k d { F with c := r, g := r2, man := some (F.l, r) } (F.l, r) qz _ ⟨{ ok.ok with sc := ir.sm (by decide) dr, sg := ir2.sm (by decide) dr2, lc := hlr, cg := hrr, mn := fun p hp => ?_ }, ok.il, ir, ir2, ok.iz⟩ hFd hz rfl row12 ((b11.x0 e12).f (Ext.refl.at_ List.mem_cons_self : Ext [d] _ _) (no_dk hL12).2) ((E11.trans e12.of0).own hHd)
        cases hp
        exact ⟨⟨ok.il.nn, hlr, zz ok.il, zz ir⟩, Rat.le_refl, Rat.le_refl⟩
      · walk_at "go"
        exact k d F p qz H7 ok hFd hz hman row7 b7 E7
end
end Yk

set_option maxHeartbeats 16000000
namespace Yk
open PySem PySem.Spec PyProof.Rows L2

local macro_rules | `(tactic| walk_at "st") => `(tactic| first
  | with_reducible refine' r_tAt ?_
  | ((with_reducible refine' r_fld ?h1 ?h2 ?h3); (case h1 => first | assumption | exact upd_same); (case h2 => first | walk_at "lk" | rfl))
  | with_reducible refine' r_sAt ?_
  | ((with_reducible refine' r_putU ?h1 ?h2); (case h1 => (repeat refine putF_lt ?_); decide))
  | ((with_reducible refine' r_put ?h1 ?h2 ?h3); (case h1 => first | assumption | exact upd_same); (case h2 => (repeat refine putF_lt ?_); decide))
  | with_reducible refine' r_tMt ?_
  | ((with_reducible refine' r_met ?h1 ?h2 ?h3); (case h1 => first | assumption | exact upd_same); (case h2 => first | walk_at "lk" | rfl))
  | with_reducible refine' r_tCr ?_
  | with_reducible refine' r_tCrK ?_
  | with_reducible refine' r_chain ?_)
local macro_rules | `(tactic| walk_at "st") => `(tactic| first
  | with_reducible refine' r_dget ?_
  | with_reducible refine' r_dc ?_
  | with_reducible refine' r_iVals ?_
  | with_reducible refine' r_dnotin ?_
  | with_reducible refine' r_din ?_
  | with_reducible refine' r_iItems ?_
  | with_reducible refine' r_iKeysT ?_
  | with_reducible refine' r_tget1 ?_
  | with_reducible refine' r_tget2 ?_
  | with_reducible refine' r_dput ?_
  | with_reducible refine' r_tPr ?_
  | ((with_reducible refine' r_prp2 ?h1 ?h2); (case h1 => first | assumption | exact upd_same))
  | with_reducible refine' r_par3 ?_
  | ((with_reducible refine' r_dnT ?_); (intro np hnp))
  | ((with_reducible refine' r_dnK ?_); (intro np hnp)))
/-! Senders of windows. -/
def Send3 (vf : V) (age : Int) (vt : V) : List (Str × V) := [("flow", vf), ("age", .int age), ("total", vt)]
def Send4 (vf : V) (age : Int) (vt vc : V) : List (Str × V) := [("flow", vf), ("age", .int age), ("total", vt), ("_came", vc)]
section
variable {vf vt vc v : V} {age : Int}
theorem lk_S_flow : List.lookup ("flow" : Str) (Send4 vf age vt vc) = some vf := by kernel_rfl
theorem lk_S_total : List.lookup ("total" : Str) (Send4 vf age vt vc) = some vt := by kernel_rfl
theorem lk_S_came : List.lookup ("_came" : Str) (Send4 vf age vt vc) = some vc := by kernel_rfl
theorem lk_S_offer : List.lookup ("offer" : Str) (Send4 vf age vt vc) = none := by kernel_rfl
theorem lk_S_note : List.lookup ("note_sent" : Str) (Send4 vf age vt vc) = none := by kernel_rfl
theorem lk_S_asks : List.lookup ("asks" : Str) (Send4 vf age vt vc) = none := by kernel_rfl
theorem put_S3 : putF "total" vt (putF "age" (.int age) (putF "flow" vf [])) = Send3 vf age vt := by kernel_rfl
theorem put_S4 : putF "_came" vc (Send3 vf age vt) = Send4 vf age vt vc := by kernel_rfl
theorem put_St : putF "total" v (Send4 vf age vt vc) = Send4 vf age v vc := by kernel_rfl
end
theorem FlowAt.oo {cF : Addr} {K : PySem.W.Frag} {H H1 : Hp} {C a dx : Addr} {fs : List (Str × V)} {v : V} {F : FlowD} (e : Ext [a] H H1) (ha : H a = some (.ins C dx fs)) (hne : v ≠ .ref a) (h : FlowAt cF K H v F) : FlowAt cF K H1 v F := by
  obtain ⟨b, dy, t1, t2, xs, vz, vl, vc, vg, vm, rfl, h, h1, h2, h3, h4, h5, h6, h7, h8⟩ := h
  refine ⟨b, dy, t1, t2, xs, vz, vl, vc, vg, vm, rfl, e _ _ h fun z => ?_, tupO e ha h1, tupO e ha h2, h3.o e ha, h4.o e ha, h5.o e ha, h6.o e ha, h7.o e ha, h8.o e ha⟩
  exact hne (by rw [List.mem_singleton.mp z])
theorem FlowAt.bg {cF : Addr} {K : PySem.W.Frag} {H H1 : Hp} {b : Bag} {v : V} {F : FlowD} (h : FlowAt cF K H v F) (hb : BagAt K H b) (e : Ext [b.a] H H1) : FlowAt cF K H1 v F := by
  obtain ⟨a, dy, t1, t2, xs, vz, vl, vc, vg, vm, rfl, h, h1, h2, h3, h4, h5, h6, h7, h8⟩ := h
  have hs : ∀ a ∈ [b.a], ∃ l, H a = some (.lst l) := fun a ha => by rw [List.mem_singleton.mp ha]; exact hb.lst
  refine ⟨a, dy, t1, t2, xs, vz, vl, vc, vg, vm, rfl, e _ _ h fun z => ?_, tupX e h1 hs, tupX e h2 hs, h3.b hb e, h4.b hb e, h5.b hb e, h6.b hb e, h7.b hb e, ManIs.x e h8 hs⟩
  obtain ⟨l, q⟩ := hs _ z
  rw [h] at q
  cases q
def cameK (n : Str) : List Key := [.inr "came", .inr n, .inr n, .inr n]
/-- a window's sender -/
def SendAt (cW : Addr) (K : PySem.W.Frag) (H : Hp) (a : Addr) (vf : V) (age : Int) (n : Str) (tot : Rat) : Prop := ∃ dx vt t, H a = some (.ins cW dx (Send4 vf age vt (.ref t))) ∧ Am K H vt tot ∧ H t = some (.tup ((cameK n).map kV))
section
variable {cW : Addr} {K : PySem.W.Frag} {H H1 : Hp} {a : Addr} {vf : V} {age : Int} {n : Str} {tot : Rat}
theorem SendAt.x0 (h : SendAt cW K H a vf age n tot) (e : Ext [] H H1) : SendAt cW K H1 a vf age n tot := by
  obtain ⟨dx, vt, t, h1, h2, h3⟩ := h
  exact ⟨dx, vt, t, e _ _ h1 (fun z => nomatch z), h2.x0 e, e _ _ h3 fun z => nomatch z⟩
theorem SendAt.f {S : List Addr} (h : SendAt cW K H a vf age n tot) (e : Ext S H H1) (ns : NoTup H S) (ha : a ∉ S) : SendAt cW K H1 a vf age n tot := by
  obtain ⟨dx, vt, t, h1, h2, h3⟩ := h
  refine ⟨dx, vt, t, e _ _ h1 ha, h2.f e ns, e _ _ h3 fun z => ?_⟩
  obtain ⟨o, q, n1, _⟩ := ns _ z
  rw [h3] at q
  cases q
  exact n1 _ rfl
end
section
variable {P : Program} {w : World} {K : PySem.W.Frag} {mg : Str → Option Value} {base : Heap} {f : Addr} {fd : FuncData}
def spSendInit (cW : Addr) (K : PySem.W.Frag) : Sp := fun vs H Q _ => ∃ (a dx : Addr) (vf : V) (age : Int), vs = [.ref a, vf, .int age] ∧ H a = some (.ins cW dx []) ∧ ∀ H' vt, Ext [a] H H' → H' a = some (.ins cW dx (Send3 vf age vt)) → Am K H' vt 0 → Q .non H'
abbrev s_Sender___init__ : Stmt := inClass (top 28) 0
theorem c_Sender___init__ : FnScope ["self", "flow", "age"] ["self", "flow", "age"] (defScope s_Sender___init__) := ⟨rfl, rfl, rfl, by decide +kernel, rfl, by decide +kernel, by decide +kernel⟩
theorem f_Sender___init__ (F : FunD K "__init__" "Sender.__init__" (defArgs s_Sender___init__) (defBody s_Sender___init__) (defScope s_Sender___init__) [] [] f fd) {cW : Addr} (TZ : ∃ z, mg "ZERO" = some (.ref z) ∧ ∀ H, SqT K H z [.int 0, .int 1]) (TSender : Ct K mg "WindowSender" cW ["flow", "age", "total", "_came"]) : FnOk P w K mg base CX0 1 f fd ["self", "flow", "age"] (spSendInit cW K) := by
  refine ok_meth F c_Sender___init__ (fun vs H Q E h => ?_) (fun cdv A outer s H vs Q E hr h => ?_)
  · obtain ⟨a, dx, vf, age, rfl, _⟩ := h
    rfl
  · obtain ⟨a, dx, vf, age, rfl, ha, k⟩ := h
    have nd := c_Sender___init__.nd
    obtain ⟨z, mz, htz⟩ := TZ
    refine ⟨_, (pss_cons (ps_at TSender (by decide +kernel) (pv 0) (pv 1))
      (pss_cons (ps_at TSender (by decide +kernel) (pv 0) (pv 2))
      (pss_one (ps_at TSender (by decide +kernel) (pv 0) (pe_glob (v := .ref z) rfl mz rfl))))), ?_⟩
    show (_ : TS) _ [some _, some _, some _] _
    try dsimp only [cxOf, Cx.nox]
    walk_at "go"
    rw [put_S3]
    exact k _ (.ref z) (Ext.refl.at_ List.mem_cons_self) upd_same ⟨z, rfl, htz _⟩
def spNote (cW : Addr) (K : PySem.W.Frag) : Sp := fun vs H Q _ => ∃ (a : Addr) (vf : V) (age : Int) (n : Str) (tot : Rat) (v : V) (q : Rat) (X M : Nat), vs = [.ref a, v] ∧ SendAt cW K H a vf age n tot ∧ Am K H v q ∧ In X M tot ∧ In X M q ∧ 0 < X ∧ X ≤ 2 ^ 400 ∧ 2 * M ≤ 2 ^ 400 ∧ ∀ H', Ext [a] H H' → SendAt cW K H' a vf age n (tot + q) → Q .non H'
local macro_rules | `(tactic| walk_at "lk") => `(tactic| first | with_reducible exact lk_S_flow | with_reducible exact lk_S_total | with_reducible exact lk_S_came | with_reducible exact lk_S_offer | with_reducible exact lk_S_note | with_reducible exact lk_S_asks | with_reducible exact lk_Flow_name | with_reducible exact lk_Flow_kind | with_reducible exact lk_Flow_size | with_reducible exact lk_Flow_door)
abbrev s_Sender_note_sent : Stmt := inClass (top 28) 2
theorem c_Sender_note_sent : FnScope ["self", "water"] ["self", "water"] (defScope s_Sender_note_sent) := ⟨rfl, rfl, rfl, by decide +kernel, rfl, by decide +kernel, by decide +kernel⟩
theorem f_Sender_note_sent (F : FunD K "note_sent" "Sender.note_sent" (defArgs s_Sender_note_sent) (defBody s_Sender_note_sent) (defScope s_Sender_note_sent) [] [] f fd) {cW : Addr} (TSender : Ct K mg "WindowSender" cW ["flow", "age", "total", "_came"]) (Gplus : Fn P w K mg base 2 "plus" (spPlusI K)) : FnOk P w K mg base CX0 3 f fd ["self", "water"] (spNote cW K) := by
  refine ok_meth F c_Sender_note_sent (fun vs H Q E h => ?_) (fun cdv A outer s H vs Q E hr h => ?_)
  · obtain ⟨a, vf, age, n, tot, v, q, X, M, rfl, _⟩ := h
    rfl
  · obtain ⟨a, vf, age, n, tot, v, q, X, M, rfl, ⟨dx, vt, t, ha, at_, ht⟩, av, i1, i2, X0, X4, M4, k⟩ := h
    have nd := c_Sender_note_sent.nd
    refine ⟨_, (pss_one (ps_at TSender (by decide +kernel) (pv 0) (pe_fn Gplus (hr.mono (by decide)) (pa_cons (pe_at TSender (by decide +kernel) (pv 0)) (pa_cons (pv 1) pa_nil))))), ?_⟩
    show (_ : TS) _ [some _, some _] _
    try dsimp only [cxOf, Cx.nox]
    walk_at "go"
    refine ⟨[tot, q], X, M, Ams.cons at_ (Ams.cons av Ams.nil), fun p hp => ?_, X0, X4, by simpa using M4, (show 2 ≤ 4000 by decide), fun v' H1 e1 a1 => ?_⟩
    · simp only [List.mem_cons, List.not_mem_nil, or_false] at hp
      rcases hp with rfl | rfl
      · exact i1
      · exact i2
    have ha1 := e1 _ _ ha fun z => nomatch z
    have ht1 := e1 _ _ ht fun z => nomatch z
    rw [show sumQ [tot, q] = tot + q by simp only [sumQ_cons]; unfold sumQ; simp; try grind] at a1
    walk_at "go"
    refine ⟨a, dx, _, rfl, ha1, (show 4 < 1000 by decide), ?_⟩
    rw [put_St]
    have ne := no_ins ha1
    have e2 : Ext [a] H1 (upd H1 a (.ins cW dx (Send4 vf age v' (.ref t)))) := Ext.refl.at_ List.mem_cons_self
    refine k _ (e1.of0.trans e2) ⟨dx, v', t, upd_same, a1.f e2 ne.1, e2 _ _ ht1 fun z => ?_⟩
    rw [List.mem_singleton.mp z, ha1] at ht1
    cases ht1
def spAsks (K : PySem.W.Frag) : Sp := fun vs H Q _ => ∃ (a : Addr) (v : V), vs = [.ref a, v] ∧ ∀ u, Am K H u 0 → Q u H
abbrev s_Sender_asks : Stmt := inClass (top 28) 3
theorem c_Sender_asks : FnScope ["self", "manner"] ["self", "manner"] (defScope s_Sender_asks) := ⟨rfl, rfl, rfl, by decide +kernel, rfl, by decide +kernel, by decide +kernel⟩
theorem f_Sender_asks (F : FunD K "asks" "Sender.asks" (defArgs s_Sender_asks) (defBody s_Sender_asks) (defScope s_Sender_asks) [] [] f fd) (TZ : ∃ z, mg "ZERO" = some (.ref z) ∧ ∀ H, SqT K H z [.int 0, .int 1]) : FnOk P w K mg base CX0 1 f fd ["self", "manner"] (spAsks K) := by
  refine ok_meth F c_Sender_asks (fun vs H Q E h => ?_) (fun cdv A outer s H vs Q E hr h => ?_)
  · obtain ⟨a, v, rfl, _⟩ := h
    rfl
  · obtain ⟨a, v, rfl, k⟩ := h
    have nd := c_Sender_asks.nd
    obtain ⟨z, mz, htz⟩ := TZ
    refine ⟨_, (pss_one (ps_ret (pe_glob (v := .ref z) rfl mz rfl))), ?_⟩
    show (_ : TS) _ [some _, some _] _
    try dsimp only [cxOf, Cx.nox]
    walk_at "go"
    exact k _ ⟨z, rfl, htz _⟩
def spWinInit (cF cW : Addr) (K : PySem.W.Frag) : Sp := fun vs H Q _ => ∃ (a dx : Addr) (vf : V) (age : Int) (F : FlowD), vs = [.ref a, vf, .int age] ∧ H a = some (.ins cW dx []) ∧ FlowAt cF K H vf F ∧ vf ≠ .ref a ∧ ∀ H', Ext [a] H H' → SendAt cW K H' a vf age F.n 0 → Q .non H'
abbrev s_WindowSender___init__ : Stmt := inClass (top 31) 0
theorem c_WindowSender___init__ : SupScope ["self", "flow", "age"] ["self", "flow", "age"] "self" (defScope s_WindowSender___init__) := ⟨rfl, rfl, rfl, by decide +kernel, rfl, by decide +kernel, by decide +kernel, by decide +kernel, by decide +kernel, by decide +kernel, by decide +kernel, rfl, by decide +kernel⟩
theorem f_WindowSender___init__ (F : FunX P K "__init__" "WindowSender.__init__" (defArgs s_WindowSender___init__) (defBody s_WindowSender___init__) (defScope s_WindowSender___init__) cW f) {f2 : Addr} (Sd : SupD P K cW "__init__" f2) (F2 : FnR P w K mg base CX0 1 f2 (spSendInit cW K)) (hsup : mg "super" = none) {cF : Addr} (TWindowSender : Ct K mg "WindowSender" cW ["flow", "age", "total", "_came"]) (TFlow : Ct K mg "Flow" cF ["name", "route", "buffers", "kind", "size", "weight", "least", "cap", "door", "way", "manner", "strange", "last"]) : FnR P w K mg base CX0 2 f (spWinInit cF cW K) := by
  refine fnR_sup (N := ["self", "flow", "age"]) (ps := ["self", "flow", "age"]) F (by rfl) Sd F2 hsup (by rfl) c_WindowSender___init__ (by decide +kernel) (fun _ _ _ _ _ _ _ us hl => match us, hl with | [_, _, _], _ => rfl) (fun vs H Q E h => ?_) (fun env h => by unfold interactive; rw [h]; rfl) (fun _ _ => rfl) (fun _ => rfl) (fun _ => rfl) (fun _ _ => rfl) (fun cda cc A outer s H vs Q E hr h => ?_)
  · obtain ⟨a, dx, vf, age, F, rfl, _⟩ := h
    rfl
  · obtain ⟨a, dx, vf, age, F0, rfl, ha, hf, hne, k⟩ := h
    have nd := c_WindowSender___init__.nd
    refine ⟨_, _, _, _, _, rfl, ha, (pa_cons (pv 1) (pa_cons (pv 2) pa_nil)), (pss_one (ps_at TWindowSender (by decide +kernel) (pv 0) (pe_tup (pa_cons pe_str (pa_cons (pe_at TFlow (by decide +kernel) (pv 1)) (pa_cons (pe_at TFlow (by decide +kernel) (pv 1)) (pa_cons (pe_at TFlow (by decide +kernel) (pv 1)) pa_nil))))))), ?_⟩
    walk_at "go"
    refine ⟨a, dx, vf, age, rfl, ha, fun H1 vt e1 ha1 av => ?_⟩
    obtain ⟨fa, fdx, t1, t2, xs, vz, vl, vc, vg, vm, rfl, hfa, _⟩ := FlowAt.oo e1 ha hne hf
    walk_at "go"
    rename_i p hp
    have e2 : Ext [] H1 (upd H1 p (.tup [.str "came", .str F0.n, .str F0.n, .str F0.n])) := Ext.refl.new hp
    have ha2 := e2 _ _ ha1 fun z => nomatch z
    refine ⟨a, dx, _, rfl, ha2, (show 3 < 1000 by decide), ?_⟩
    rw [put_S4]
    have e3 : Ext [a] (upd H1 p (.tup [.str "came", .str F0.n, .str F0.n, .str F0.n])) (upd (upd H1 p (.tup [.str "came", .str F0.n, .str F0.n, .str F0.n])) a (.ins cW dx (Send4 (.ref fa) age vt (.ref p)))) := Ext.refl.at_ List.mem_cons_self
    have hpa : p ≠ a := fun z => by rw [z, ha1] at hp; cases hp
    exact k _ (e1.trans (e2.of0.trans e3)) ⟨dx, vt, p, upd_same, (av.x0 e2).f e3 (no_ins ha2).1, by rw [upd_ne hpa]; exact upd_same⟩
def dueQ (man : Option (Rat × Rat)) (D bound tot : Rat) : Rat := if man.isNone = true then 0 else lmin D (restQ bound tot)
def spOffer (cF cW : Addr) (K : PySem.W.Frag) : Sp := fun vs H Q _ => ∃ (a : Addr) (now : Int) (vm : V) (hd : Addr) (vf : V) (age : Int) (F : FlowD) (tot : Rat) (man : Option (Rat × Rat)) (vc : V) (qc qz : Rat) (X M : Nat), vs = [.ref a, .int now, vm, .ref hd] ∧ SendAt cW K H a vf age F.n tot ∧ FlowAt cF K H vf F ∧ F.z = .win qz ∧ ManIs K H vm man ∧
  H hd = some (.dT [(cameK F.n, vc)]) ∧ Am K H vc qc ∧ In X M tot ∧ In X M qc ∧ In X M qz ∧ In X M F.g ∧ 0 < X ∧ X ≤ 2 ^ 400 ∧ 2 * M ≤ 2 ^ 400 ∧ ∀ v H', Ext [] H H' → Am K H' v (dueQ man F.g (qz + qc) tot) → Q v H'
abbrev s_WindowSender_offer : Stmt := inClass (top 31) 1
theorem c_WindowSender_offer : FnScope ["self", "now", "manner", "heard", "bound"] ["self", "now", "manner", "heard"] (defScope s_WindowSender_offer) := ⟨rfl, rfl, rfl, by decide +kernel, rfl, by decide +kernel, by decide +kernel⟩
theorem f_WindowSender_offer (F : FunD K "offer" "WindowSender.offer" (defArgs s_WindowSender_offer) (defBody s_WindowSender_offer) (defScope s_WindowSender_offer) [] [] f fd) {cF cW : Addr} (TZ : ∃ z, mg "ZERO" = some (.ref z) ∧ ∀ H, SqT K H z [.int 0, .int 1]) (TWindowSender : Ct K mg "WindowSender" cW ["flow", "age", "total", "_came"]) (TFlow : Ct K mg "Flow" cF ["name", "route", "buffers", "kind", "size", "weight", "least", "cap", "door", "way", "manner", "strange", "last"]) (Gplus : Fn P w K mg base 2 "plus" (spPlusI K)) (Fcompare : Fn P w K mg base 1 "compare" (spCompare K)) (Fminus : Fn P w K mg base 2 "minus" (spMinus K)) (Fsmallest : Fn P w K mg base 2 "smallest" (spMin minQ K)) : FnOk P w K mg base CX0 3 f fd ["self", "now", "manner", "heard"] (spOffer cF cW K) := by
  refine ok_meth F c_WindowSender_offer (fun vs H Q E h => ?_) (fun cdv A outer s H vs Q E hr h => ?_)
  · obtain ⟨a, now, vm, hd, vf, age, F, tot, man, vc, qc, qz, X, M, rfl, _⟩ := h
    rfl
  · obtain ⟨a, now, vm, hd, vf, age, F0, tot, man, vc, qc, qz, X, M, rfl, ⟨dx, vt, t, ha, hvt, ht⟩, ⟨fa, fdx, t1, t2, xs, vz, vl, vcc, vg, vmm, rfl, hfa, _, _, _, hz, _, _, hg, _⟩, hzq, hm, hhd, hc, it, ic, iz, ig, X0, X4, M4, k⟩ := h
    have nd := c_WindowSender_offer.nd
    obtain ⟨z, mz, htz⟩ := TZ
    refine ⟨_, (pss_cons (ps_set (i := 4) nd rfl (by first | exact Or.inl rfl | exact Or.inr rfl) (pe_fn Gplus (hr.mono (by decide)) (pa_cons (pe_at TFlow (by decide +kernel) (pe_at TWindowSender (by decide +kernel) (pv 0))) (pa_cons (pe_dget2 (hu_of hr) (pv 3) (pe_at TWindowSender (by decide +kernel) (pv 0)) (pe_glob (v := .ref z) rfl mz rfl) ⟨by rfl, by rfl, by rfl, by rfl⟩) pa_nil))))
      (pss_cons (ps_if (PW.pt (pw_or (pt_cmpR (op_eqD hr.units) (pv 2) (pe_tup pa_nil) (nomark _)) (pw_or1 (pt_cmpR op_lt (pe_fn Fcompare (hr.mono (by decide)) (pa_cons (pv 4) (pa_cons (pe_at TWindowSender (by decide +kernel) (pv 0)) pa_nil))) pe_int (nomark _)))))
        (pss_one (ps_ret (pe_glob (v := .ref z) rfl mz rfl)))
        pss_nil)
      (pss_one (ps_ret (pe_fn Fsmallest (hr.mono (by decide)) (pa_cons (pe_at TFlow (by decide +kernel) (pe_at TWindowSender (by decide +kernel) (pv 0))) (pa_cons (pe_fn Fminus (hr.mono (by decide)) (pa_cons (pv 4) (pa_cons (pe_at TWindowSender (by decide +kernel) (pv 0)) pa_nil))) pa_nil))))))), ?_⟩
    show (_ : TS) _ [some _, some _, some _, some _, none] _
    try dsimp only [cxOf, Cx.nox]
    rw [hzq] at hz
    have M4' : M ≤ 2 ^ 400 := by omega
    have z4 : ∀ {q : Rat}, In X M q → Sz 4000 q := fun i => szG i X0 X4 M4'
    walk_at "go"
    refine ⟨hd, rfl, ?_, ?_⟩
    · exact .inr ⟨_, .inl hhd⟩
    walk_at "go"
    refine ⟨some vc, .inr ⟨_, cameK F0.n, t, .inl hhd, rfl, ht, (valV_pos (p := (cameK F0.n, vc)) rfl).symm⟩, ?_⟩
    walk_at "go"
    refine ⟨[qz, qc], X, M, Ams.cons hz.1 (Ams.cons hc Ams.nil), fun p hp => ?_, X0, X4, by simpa using M4, (show 2 ≤ 4000 by decide), fun v' H1 e1 a1 => ?_⟩
    · simp only [List.mem_cons, List.not_mem_nil, or_false] at hp
      rcases hp with rfl | rfl
      · exact iz
      · exact ic
    rw [show sumQ [qz, qc] = qz + qc by simp only [sumQ_cons]; unfold sumQ; simp; try grind] at a1
    have ib : In X (2 * M) (qz + qc) := by have := iz.add ic; rwa [← Nat.two_mul] at this
    have zb : Sz 4000 (qz + qc) := szG ib X0 X4 M4
    have ha1 := e1 _ _ ha fun z => nomatch z
    have hfa1 := e1 _ _ hfa fun z => nomatch z
    walk_at "go"
    rename_i pe hpe
    have e2 : Ext [] H1 (upd H1 pe (.tup [])) := Ext.refl.new hpe
    refine eq_man ((hm.x0 e1).x0 e2) tupS ?_
    have ha2 := e2 _ _ ha1 fun z => nomatch z
    have hfa2 := e2 _ _ hfa1 fun z => nomatch z
    cases man with
    | none =>
      walk_at "run"
      exact k _ _ (e1.trans e2) ⟨z, rfl, htz _⟩
    | some pr =>
      have hdue : dueQ (some pr) F0.g (qz + qc) tot = lmin F0.g (restQ (qz + qc) tot) := rfl
      rw [hdue] at k
      walk_at "run"
      refine ⟨v', vt, qz + qc, tot, rfl, a1.x0 e2, (hvt.x0 e1).x0 e2, zb, z4 it, ?_⟩
      walk_at "run"
      refine r_dec (fun hlt => ?_) (fun hge => ?_)
      · walk_at "run"
        have h1 : qz + qc < tot := (cmp_lt _ _).mp hlt
        refine k _ _ (e1.trans e2) ⟨z, rfl, ?_⟩
        have : lmin F0.g (restQ (qz + qc) tot) = 0 := by
          have := ig.nn
          unfold restQ lmin
          rw [if_pos (Rat.le_of_lt h1)]
          split <;> grind
        rw [this]
        exact htz _
      · have h1 : tot ≤ qz + qc := Rat.not_lt.mp fun h => hge ((cmp_lt _ _).mpr h)
        walk_at "run"
        refine ⟨v', vt, qz + qc, tot, rfl, a1.x0 e2, (hvt.x0 e1).x0 e2, h1, zb, z4 it, fun v2 H3 e3 a3 => ?_⟩
        walk_at "run"
        have ir : In X (2 * M) (qz + qc - tot) := ib.sub it h1
        refine ⟨F0.g, [qz + qc - tot], Ams.cons (((hg.x0 e1).x0 e2).x0 e3) (Ams.cons a3 Ams.nil), fun q hq => ?_, (show 1 ≤ 4000 by decide), fun v3 H4 e4 a4 => ?_⟩
        · simp only [List.mem_cons, List.not_mem_nil, or_false] at hq
          rcases hq with rfl | rfl
          · exact z4 ig
          · exact szG ir X0 X4 M4
        · refine k v3 H4 ((e1.trans e2).trans (e3.trans e4)) ?_
          rw [rest_eq h1]
          exact a4
def spSendOf (cF cW : Addr) (K : PySem.W.Frag) : Sp := fun vs H Q _ => ∃ (vf : V) (age : Int) (F : FlowD), vs = [vf, .int age] ∧ FlowAt cF K H vf F ∧ F.d = "window" ∧ ∀ a H', Ext [] H H' → SendAt cW K H' a vf age F.n 0 → H a = none → Q (.ref a) H'
def spNo : Sp := fun _ _ _ _ => False
theorem k_win {cF cW : Addr} {K : PySem.W.Frag} {H : Hp} {vf : V} {age : Int} {F : FlowD} {Q : VK} {E : XK} (hf : FlowAt cF K H vf F) (k : ∀ a H', Ext [] H H' → SendAt cW K H' a vf age F.n 0 → H a = none → Q (.ref a) H') : ∀ x dx, H x = none → H dx = none → dx ≠ x → spWinInit cF cW K (V.ref x :: [vf, .int age]) (upd (upd H dx (.own x)) x (.ins cW dx [])) (fun v H2 => v = .non ∧ Q (.ref x) H2) E := fun x dx nx ndx nex => by
  have hx : upd H dx (.own x) x = none := by rw [upd_ne nex.symm]; exact nx
  have e : Ext [] H (upd (upd H dx (.own x)) x (.ins cW dx [])) := (Ext.refl.new ndx).new hx
  have hne : vf ≠ .ref x := fun z => by
    obtain ⟨fa, _, _, _, _, _, _, _, _, _, rfl, h, _⟩ := hf
    cases z
    rw [nx] at h
    cases h
  refine ⟨x, dx, vf, age, F, rfl, upd_same, hf.x0 e, hne, fun H' e2 hs => ⟨rfl, k x H' (fun b o hb _ => ?_) hs nx⟩⟩
  have hbx : b ∉ [x] := fun z => by rw [List.mem_singleton.mp z, nx] at hb; cases hb
  exact e2 _ _ (e _ _ hb fun z => nomatch z) hbx
abbrev s_sender_of : Stmt := top 33
theorem c_sender_of : FnScope ["flow", "age"] ["flow", "age"] (defScope s_sender_of) := ⟨rfl, rfl, rfl, by decide +kernel, rfl, by decide +kernel, by decide +kernel⟩
theorem f_sender_of (F : FunD K "sender_of" "sender_of" (defArgs s_sender_of) (defBody s_sender_of) (defScope s_sender_of) [] [] f fd) (hm : mg "sender_of" = some (.ref f)) {cF cW cLv cEg cPr : Addr} (TFlow : Ct K mg "Flow" cF ["name", "route", "buffers", "kind", "size", "weight", "least", "cap", "door", "way", "manner", "strange", "last"]) (RLevelSender : Cr P w K mg base 1 "LevelSender" cLv spNo) (REagerSender : Cr P w K mg base 1 "EagerSender" cEg spNo) (RProbeSender : Cr P w K mg base 1 "ProbeSender" cPr spNo) (RWindowSender : Cr P w K mg base 2 "WindowSender" cW (spWinInit cF cW K)) : Fn P w K mg base 4 "sender_of" (spSendOf cF cW K) := by
  refine fn_def F hm c_sender_of (fun vs H Q E h => ?_) (fun _ _ _ _ _ _ us hl => match us, hl with | [_, _], _ => rfl) (fun cdv A outer s H vs Q E hr h => ?_)
  · obtain ⟨vf, age, F, rfl, _⟩ := h
    rfl
  · obtain ⟨vf, age, F0, rfl, hf, hd, k⟩ := h
    have nd := c_sender_of.nd
    refine ⟨_, (pss_cons (ps_if (pt_cmpR op_eq (pe_at TFlow (by decide +kernel) (pv 0)) pe_str (nomark _))
        (pss_one (ps_ret (pe_cr RLevelSender (hr.mono (by decide)) (pa_cons (pv 0) (pa_cons (pv 1) pa_nil)))))
        pss_nil)
      (pss_cons (ps_if (pt_cmpR op_eq (pe_at TFlow (by decide +kernel) (pv 0)) pe_str (nomark _))
        (pss_one (ps_ret (pe_cr REagerSender (hr.mono (by decide)) (pa_cons (pv 0) (pa_cons (pv 1) pa_nil)))))
        pss_nil)
      (pss_cons (ps_if (pt_cmpR op_eq (pe_at TFlow (by decide +kernel) (pv 0)) pe_str (nomark _))
        (pss_one (ps_ret (pe_cr RWindowSender (hr.mono (by decide)) (pa_cons (pv 0) (pa_cons (pv 1) pa_nil)))))
        pss_nil)
      (pss_one (ps_ret (pe_cr RProbeSender (hr.mono (by decide)) (pa_cons (pv 0) (pa_cons (pv 1) pa_nil)))))))), ?_⟩
    show (_ : TS) _ [some _, some _] _
    try dsimp only [cxOf, Cx.nox]
    obtain ⟨fa, fdx, t1, t2, xs, vz, vl, vcc, vg, vmm, rfl, hfa, hrest⟩ := id hf
    walk_at "go"
    rw [hd]
    refine r_false (decide_eq_false (by decide +kernel)) ?_
    walk_at "go"
    rw [hd]
    refine r_false (decide_eq_false (by decide +kernel)) ?_
    walk_at "go"
    rw [hd]
    refine r_true (decide_eq_true rfl) ?_
    walk_at "go"
    exact k_win hf k
end
end Yk

set_option maxHeartbeats 16000000
namespace Yk
open PySem PySem.Spec PyProof.Rows L2

local macro_rules | `(tactic| walk_at "st") => `(tactic| first
  | with_reducible refine' r_tAt ?_
  | ((with_reducible refine' r_fld ?h1 ?h2 ?h3); (case h1 => first | assumption | exact upd_same); (case h2 => first | walk_at "lk" | rfl))
  | with_reducible refine' r_sAt ?_
  | ((with_reducible refine' r_putU ?h1 ?h2); (case h1 => (repeat refine putF_lt ?_); decide))
  | ((with_reducible refine' r_put ?h1 ?h2 ?h3); (case h1 => first | assumption | exact upd_same); (case h2 => (repeat refine putF_lt ?_); decide))
  | with_reducible refine' r_tMt ?_
  | ((with_reducible refine' r_met ?h1 ?h2 ?h3); (case h1 => first | assumption | exact upd_same); (case h2 => first | walk_at "lk" | rfl))
  | with_reducible refine' r_tCr ?_
  | with_reducible refine' r_tCrK ?_
  | with_reducible refine' r_chain ?_)
local macro_rules | `(tactic| walk_at "st") => `(tactic| first
  | with_reducible refine' r_dget ?_
  | with_reducible refine' r_dc ?_
  | with_reducible refine' r_iVals ?_
  | with_reducible refine' r_dnotin ?_
  | with_reducible refine' r_din ?_
  | with_reducible refine' r_iItems ?_
  | with_reducible refine' r_iKeysT ?_
  | with_reducible refine' r_tget1 ?_
  | with_reducible refine' r_tget2 ?_
  | with_reducible refine' r_dput ?_
  | with_reducible refine' r_tPr ?_
  | ((with_reducible refine' r_prp2 ?h1 ?h2); (case h1 => first | assumption | exact upd_same))
  | with_reducible refine' r_par3 ?_
  | ((with_reducible refine' r_dnT ?_); (intro np hnp))
  | ((with_reducible refine' r_dnK ?_); (intro np hnp)))
/-! A flow is equal to itself. -/
local macro_rules | `(tactic| walk_at "lk") => `(tactic| first | with_reducible exact lk_Flow_name | with_reducible exact lk_Flow_route | with_reducible exact lk_Flow_buffers | with_reducible exact lk_Flow_kind | with_reducible exact lk_Flow_size | with_reducible exact lk_Flow_weight | with_reducible exact lk_Flow_least | with_reducible exact lk_Flow_cap | with_reducible exact lk_Flow_door | with_reducible exact lk_Flow_way | with_reducible exact lk_Flow_manner | with_reducible exact lk_Flow_strange | with_reducible exact lk_Flow_last)
theorem ext_l2 {H H' : Hp} (h : L2.Ext H H') : Ext [] H H' := fun a o ha _ => h a o ha
theorem l2_ext {H H' : Hp} (h : Ext [] H H') : L2.Ext H H' := fun a o ha => h a o ha fun z => nomatch z
section
variable {K : PySem.W.Frag} {H : Hp} {Q : VK}
theorem eq_self {v : V} {d : PyData} (h : Dp K H v d) (hc : d.canLay0 = true) (hd : d.depth ≤ 64) (k : Q (.bl true) H) : rEqD K v v H Q := by
  refine ⟨d, d, h, h, ?_, ?_, ?_⟩
  · unfold SeqAt.shaped; rw [hc, decide_eq_true hd]; rfl
  · unfold SeqAt.shaped; rw [hc, decide_eq_true hd]; rfl
  · rw [SeqAt.eqv_refl d hc]; exact k
theorem dp_man2 {v : V} {man : Option (Rat × Rat)} (h : ManIs K H v man) : ∃ d, Dp K H v d ∧ d.canLay0 = true ∧ d.depth ≤ 64 := by
  cases man with
  | none => obtain ⟨a, rfl, h⟩ := h; exact ⟨.tuple [], .tup h .nil, rfl, by decide⟩
  | some q => obtain ⟨a, v1, v2, rfl, h, a1, a2⟩ := h; exact ⟨_, .tup h (.cons (dp_am a1) (.cons (dp_am a2) .nil)), rfl, by simp [PyData.depth, PyData.depthAll]⟩
theorem dp_ams : ∀ {vs : List V} {qs : List Rat}, Ams K H vs qs → ∃ ds, DpAll K H vs ds ∧ PyData.canLayAll0 ds = true ∧ PyData.depthAll ds ≤ 2
  | [], qs, h => ⟨[], .nil, rfl, Nat.zero_le _⟩
  | v :: vs, [], h => absurd h.1 (by simp)
  | v :: vs, q :: qs, h => by
    obtain ⟨ds, h1, h2, h3⟩ := dp_ams (vs := vs) (qs := qs) ⟨by simpa using h.1, fun i v q a b => h.2 (i + 1) v q (by simpa using a) (by simpa using b)⟩
    refine ⟨_, .cons (dp_am (h.2 0 v q rfl rfl)) h1, ?_, ?_⟩
    · rw [PyData.canLayAll0, h2]; rfl
    · rw [PyData.depthAll]
      refine Nat.max_le.mpr ⟨?_, h3⟩
      simp [PyData.depth, PyData.depthAll]
theorem dp_strs : ∀ {rs : List Str}, (∀ s ∈ rs, PyData.strOk s = true) → ∃ ds, DpAll K H (rs.map V.str) ds ∧ PyData.canLayAll0 ds = true ∧ PyData.depthAll ds ≤ 2
  | [], _ => ⟨[], .nil, rfl, Nat.zero_le _⟩
  | s :: rs, h => by
    obtain ⟨ds, h1, h2, h3⟩ := dp_strs (rs := rs) fun s hs => h s (List.mem_cons_of_mem _ hs)
    refine ⟨_, .cons (.str s) h1, ?_, ?_⟩
    · rw [PyData.canLayAll0, h2, PyData.canLay0, h s List.mem_cons_self]; rfl
    · rw [PyData.depthAll]
      exact Nat.max_le.mpr ⟨Nat.zero_le _, h3⟩
theorem dp_tup {a : Addr} {xs : List V} {ds : List PyData} (h : SqT K H a xs) (g : DpAll K H xs ds) (hd : PyData.depthAll ds ≤ 2) : Dp K H (.ref a) (.tuple ds) ∧ (PyData.tuple ds).depth ≤ 64 := ⟨.tup h g, by rw [PyData.depth]; omega⟩
theorem nameB_ok {s : Str} (h : nameB s = true) : PyData.strOk s = true := by
  unfold nameB at h
  simp only [Bool.and_eq_true] at h
  have h1 := h.1.1.2
  unfold Txt.isascii at h1
  unfold PyData.strOk
  rw [Array.all_eq_true_iff_forall_mem] at h1 ⊢
  intro c hc
  have := of_decide_eq_true (h1 c hc)
  exact decide_eq_true (by omega)
theorem dp_size {v : V} {z : SizeD} (h : SizeIs K H v z) : ∃ d, Dp K H v d ∧ d.canLay0 = true ∧ d.depth ≤ 64 := by
  cases z with
  | no => rw [show v = .non from h]; exact ⟨.none, .non, rfl, by decide⟩
  | win q => exact ⟨_, dp_am h.1, rfl, by simp [PyData.depth, PyData.depthAll]⟩
  | tries n => rw [h.1]; exact ⟨.int n, .int n, rfl, by simp [PyData.depth]⟩
end
def FlowR (cF : Addr) (K : PySem.W.Frag) : Addr → Addr → Hp → Prop := fun a b H => a = b ∧ ∃ F, FlowAt cF K H (.ref a) F ∧ FlowOk F
theorem FlowR.mon {cF : Addr} {K : PySem.W.Frag} : ∀ a b H H', L2.Ext H H' → FlowR cF K a b H → FlowR cF K a b H' := fun a b H H' e ⟨h, F, hf, ok⟩ => ⟨h, F, hf.x0 (ext_l2 e), ok⟩
section
variable {P : Program} {w : World} {K : PySem.W.Frag} {mg : Str → Option Value} {base : Heap} {f : Addr} {fd : FuncData}
abbrev s_Flow___eq__ : Stmt := inClass (top 41) 7
theorem c_Flow___eq__ : FnScope ["self", "other"] ["self", "other"] (defScope s_Flow___eq__) := ⟨rfl, rfl, rfl, by decide +kernel, rfl, by decide +kernel, by decide +kernel⟩
theorem f_Flow___eq__ (F : FunD K "__eq__" "Flow.__eq__" (defArgs s_Flow___eq__) (defBody s_Flow___eq__) (defScope s_Flow___eq__) [] [] f fd) {cF : Addr} (T : Bt mg) (Y : Ty1 K cF) (hself : PySem.W.kitOne K (.ref cF) (.ref cF) = some true) (TFlow : Ct K mg "Flow" cF ["name", "route", "buffers", "kind", "size", "weight", "least", "cap", "door", "way", "manner", "strange", "last"]) : FnOk P w K mg base CX0 1 f fd ["self", "other"] (spEq (FlowR cF K)) := by
  refine ok_meth F c_Flow___eq__ (fun vs H Q E h => ?_) (fun cdv A outer s H vs Q E hr h => ?_)
  · obtain ⟨a, b, rfl, _⟩ := h
    rfl
  · obtain ⟨a, b, rfl, ⟨rfl, F0, ⟨fa, dx, t1, t2, xs, vz, vl, vc, vg, vm, e0, ha, hro, hb, hxs, hz, hl, hc, hg, hm⟩, ok⟩, k⟩ := h
    have nd := c_Flow___eq__.nd
    refine ⟨_, (pss_one (ps_ret (pe_and (pe_callB call_isi (by rfl) T.isinstance (by decide +kernel) (pa_cons (pv 1) (pa_cons (pe_glob (v := .ref cF) (by rfl) TFlow.hm rfl) pa_nil))) (pe_and (pe_cmpR op_eq (pe_at TFlow (by decide +kernel) (pv 0)) (pe_at TFlow (by decide +kernel) (pv 1)) (nomark _)) (pe_and (pe_cmpR (op_eqD hr.units) (pe_at TFlow (by decide +kernel) (pv 0)) (pe_at TFlow (by decide +kernel) (pv 1)) (nomark _)) (pe_and (pe_cmpR (op_eqD hr.units) (pe_at TFlow (by decide +kernel) (pv 0)) (pe_at TFlow (by decide +kernel) (pv 1)) (nomark _)) (pe_and (pe_cmpR op_eq (pe_at TFlow (by decide +kernel) (pv 0)) (pe_at TFlow (by decide +kernel) (pv 1)) (nomark _)) (pe_and (pe_cmpR (op_eqD hr.units) (pe_at TFlow (by decide +kernel) (pv 0)) (pe_at TFlow (by decide +kernel) (pv 1)) (nomark _)) (pe_and (pe_cmpR op_eq (pe_at TFlow (by decide +kernel) (pv 0)) (pe_at TFlow (by decide +kernel) (pv 1)) (nomark _)) (pe_and (pe_cmpR (op_eqD hr.units) (pe_at TFlow (by decide +kernel) (pv 0)) (pe_at TFlow (by decide +kernel) (pv 1)) (nomark _)) (pe_and (pe_cmpR (op_eqD hr.units) (pe_at TFlow (by decide +kernel) (pv 0)) (pe_at TFlow (by decide +kernel) (pv 1)) (nomark _)) (pe_and (pe_cmpR (op_eqD hr.units) (pe_at TFlow (by decide +kernel) (pv 0)) (pe_at TFlow (by decide +kernel) (pv 1)) (nomark _)) (pe_and (pe_cmpR op_eq (pe_at TFlow (by decide +kernel) (pv 0)) (pe_at TFlow (by decide +kernel) (pv 1)) (nomark _)) (pe_and (pe_cmpR (op_eqD hr.units) (pe_at TFlow (by decide +kernel) (pv 0)) (pe_at TFlow (by decide +kernel) (pv 1)) (nomark _)) (pe_one (pe_cmpR op_eq (pe_at TFlow (by decide +kernel) (pv 0)) (pe_at TFlow (by decide +kernel) (pv 1)) (nomark _))))))))))))))))), ?_⟩
    show (_ : TS) _ [some _, some _] _
    try dsimp only [cxOf, Cx.nox]
    cases e0
    obtain ⟨d1, r1, r2, r3⟩ := dp_strs (K := K) (H := H) (rs := F0.rs) fun s hs => nameB_ok (ok.rt.nm s hs).2
    obtain ⟨d2, b1, b2, b3⟩ := dp_ams hxs
    obtain ⟨d3, z1, z2, z3⟩ := dp_size hz
    obtain ⟨d4, m1, m2, m3⟩ := dp_man2 hm
    have kk := k H L2.Ext.rfl'
    walk_at "go"
    refine r_isiO Y ha hself ?_
    walk_at "run"
    refine r_true (decide_eq_true rfl) ?_
    walk_at "run"
    obtain ⟨p1, q1⟩ := dp_tup hro r1 r3
    refine eq_self p1 r2 q1 ?_
    walk_at "run"
    obtain ⟨p2, q2⟩ := dp_tup hb b1 b3
    refine eq_self p2 b2 q2 ?_
    walk_at "run"
    refine r_true (decide_eq_true rfl) ?_
    walk_at "run"
    refine eq_self z1 z2 z3 ?_
    walk_at "run"
    refine r_true (decide_eq_true rfl) ?_
    walk_at "run"
    refine eq_am hl hl ?_
    rw [decide_eq_true rfl]
    walk_at "run"
    refine eq_am hc hc ?_
    rw [decide_eq_true rfl]
    walk_at "run"
    refine eq_am hg hg ?_
    rw [decide_eq_true rfl]
    walk_at "run"
    refine r_true (decide_eq_true rfl) ?_
    walk_at "run"
    refine eq_self m1 m2 m3 ?_
    walk_at "run"
    rw [decide_eq_true rfl]
    exact kk
end
end Yk

set_option maxHeartbeats 16000000
namespace Yk
open PySem PySem.Spec PyProof.Rows L2
/-! What the law of windows keeps: the heap, the sums. -/
theorem FlowAt.f {cF : Addr} {K : PySem.W.Frag} {S : List Addr} {H H1 : Hp} {fa : Addr} {F : FlowD} (h : FlowAt cF K H (.ref fa) F) (e : Ext S H H1) (ns : NoTup H S) (hn : fa ∉ S) : FlowAt cF K H1 (.ref fa) F := by
  obtain ⟨a, dy, t1, t2, xs, vz, vl, vc, vg, vm, ea, h, h1, h2, h3, h4, h5, h6, h7, h8⟩ := h
  cases ea
  exact ⟨fa, dy, t1, t2, xs, vz, vl, vc, vg, vm, rfl, e _ _ h hn, tupF e h1 ns, tupF e h2 ns, AmsF e ns h3, h4.f e ns, h5.f e ns, h6.f e ns, h7.f e ns, h8.f e ns⟩
theorem Ams.pick {K : PySem.W.Frag} {H : Hp} {xs : List V} {S : List Rat} {i : Nat} {q : Rat} (h : Ams K H xs S) (hq : S[i]? = some q) : ∃ v, xs[i]? = some v ∧ Am K H v q := by
  have hi : i < xs.length := by rw [h.1]; exact (List.getElem?_eq_some_iff.mp hq).1
  exact ⟨_, List.getElem?_eq_getElem hi, h.2 i _ q (List.getElem?_eq_getElem hi) hq⟩
structure LS (cF cW : Addr) (K : PySem.W.Frag) (H : Hp) (b : Bag) (d : Addr) (L : List (Key × V)) (fa ta su en : Addr) (F : FlowD) (vD vz vm : V) (qz : Rat) (pm : Rat × Rat) (age : Int) (S E : List Rat) (tot : Rat) (vals : List V) (qs : List Rat) (wm : List (V × Option (Rat × Rat))) : Prop where
  bag : BagAt K H b
  row : H d = some (.dK L)
  aD : Am K H vD F.g
  az : Am K H vz qz
  am : ManIs K H vm (some pm)
  snd : SendAt cW K H ta (.ref fa) age F.n tot
  flw : FlowAt cF K H (.ref fa) F
  sm : ∃ xs, H su = some (.lst xs) ∧ Ams K H xs S
  en : ∃ xs, H en = some (.lst xs) ∧ Ams K H xs E
  ams : Ams K H vals qs
  mn : ∀ p ∈ wm, ManIs K H p.1 p.2
section
variable {cF cW : Addr} {K : PySem.W.Frag} {H H1 Hb : Hp} {b : Bag} {d : Addr} {L : List (Key × V)} {fa ta su en : Addr} {F : FlowD} {vD vz vm : V} {qz : Rat} {pm : Rat × Rat} {age : Int} {S E : List Rat} {tot : Rat} {vals : List V} {qs : List Rat} {wm : List (V × Option (Rat × Rat))} {v : V} {q : Rat}
theorem SendAt.ins {vf : V} {n : Str} (h : SendAt cW K H ta vf age n tot) : ∃ dx fs, H ta = some (.ins cW dx fs) := let ⟨dx, vt, t, h, _⟩ := h; ⟨dx, _, h⟩
theorem FlowAt.ins (h : FlowAt cF K H (.ref fa) F) : ∃ dx fs, H fa = some (.ins cF dx fs) := by
  obtain ⟨a, dy, t1, t2, xs, vz, vl, vc, vg, vm, ea, h, _⟩ := h
  cases ea
  exact ⟨dy, _, h⟩
theorem LS.x0 (h : LS cF cW K H b d L fa ta su en F vD vz vm qz pm age S E tot vals qs wm) (e : Ext [] H H1) : LS cF cW K H1 b d L fa ta su en F vD vz vm qz pm age S E tot vals qs wm := by
  obtain ⟨xs, h1, h2⟩ := h.sm
  obtain ⟨ys, g1, g2⟩ := h.en
  exact ⟨h.bag.x0 e, e _ _ h.row (fun z => nomatch z), h.aD.x0 e, h.az.x0 e, ManIs.x0 e h.am, h.snd.x0 e, h.flw.x0 e, ⟨xs, e _ _ h1 (fun z => nomatch z), h2.x0 e⟩, ⟨ys, e _ _ g1 (fun z => nomatch z), g2.x0 e⟩, h.ams.x0 e, fun p hp => ManIs.x0 e (h.mn p hp)⟩
/-- lists, dicts and objects at S alone change; none of ours -/
theorem LS.f {Z : List Addr} (h : LS cF cW K H b d L fa ta su en F vD vz vm qz pm age S E tot vals qs wm) (e : Ext Z H H1) (ns : NoTup H Z) (b1 : BagAt K H1 b) (hd : d ∉ Z) (ht : ta ∉ Z) (hf : fa ∉ Z) (hs : su ∉ Z) (he : en ∉ Z) : LS cF cW K H1 b d L fa ta su en F vD vz vm qz pm age S E tot vals qs wm := by
  obtain ⟨xs, h1, h2⟩ := h.sm
  obtain ⟨ys, g1, g2⟩ := h.en
  exact ⟨b1, e _ _ h.row hd, h.aD.f e ns, h.az.f e ns, ManIs.f e ns h.am, h.snd.f e ns ht, h.flw.f e ns hf, ⟨xs, e _ _ h1 hs, AmsF e ns h2⟩, ⟨ys, e _ _ g1 he, AmsF e ns g2⟩, AmsF e ns h.ams, fun p hp => ManIs.f e ns (h.mn p hp)⟩
theorem LS.bg (h : LS cF cW K H b d L fa ta su en F vD vz vm qz pm age S E tot vals qs wm) (b1 : BagAt K H1 b) (e : Ext [b.a] H H1) (n1 : b.a ≠ su) (n2 : b.a ≠ en) : LS cF cW K H1 b d L fa ta su en F vD vz vm qz pm age S E tot vals qs wm := by
  obtain ⟨l, hl⟩ := h.bag.lst
  obtain ⟨dx, fs, hta⟩ := h.snd.ins
  obtain ⟨dy, gs, hfa⟩ := h.flw.ins
  refine h.f e (no_lst hl) b1 ?_ ?_ ?_ ?_ ?_
  · exact fun z => bag_ne_dk h.bag h.row (List.mem_singleton.mp z)
  · exact fun z => by rw [List.mem_singleton.mp z, hl] at hta; cases hta
  · exact fun z => by rw [List.mem_singleton.mp z, hl] at hfa; cases hfa
  · exact fun z => n1 (List.mem_singleton.mp z).symm
  · exact fun z => n2 (List.mem_singleton.mp z).symm
theorem LS.add (h : LS cF cW K H b d L fa ta su en F vD vz vm qz pm age S E tot vals qs wm) (a : Am K H v q) : LS cF cW K H b d L fa ta su en F vD vz vm qz pm age S E tot (v :: vals) (q :: qs) wm := ⟨h.bag, h.row, h.aD, h.az, h.am, h.snd, h.flw, h.sm, h.en, Ams.cons a h.ams, h.mn⟩
theorem LS.drop (h : LS cF cW K H b d L fa ta su en F vD vz vm qz pm age S E tot vals qs wm) : LS cF cW K H b d L fa ta su en F vD vz vm qz pm age S E tot [] [] [] := ⟨h.bag, h.row, h.aD, h.az, h.am, h.snd, h.flw, h.sm, h.en, Ams.nil, fun _ z => nomatch z⟩
theorem LS.addM {man : Option (Rat × Rat)} (h : LS cF cW K H b d L fa ta su en F vD vz vm qz pm age S E tot vals qs wm) (a : ManIs K H v man) : LS cF cW K H b d L fa ta su en F vD vz vm qz pm age S E tot vals qs ((v, man) :: wm) := ⟨h.bag, h.row, h.aD, h.az, h.am, h.snd, h.flw, h.sm, h.en, h.ams, fun p hp => (List.mem_cons.mp hp).elim (fun z => by rw [z]; exact a) (h.mn p)⟩
theorem LS.at_ (h : LS cF cW K H b d L fa ta su en F vD vz vm qz pm age S E tot vals qs wm) (i : Nat) (hv : vals[i]? = some v) (hq : qs[i]? = some q) : Am K H v q := h.ams.2 i v q hv hq
theorem LS.note {tot' : Rat} (h : LS cF cW K H b d L fa ta su en F vD vz vm qz pm age S E tot vals qs wm) (e : Ext [ta] H H1) (hne : fa ≠ ta) (g : SendAt cW K H1 ta (.ref fa) age F.n tot') : LS cF cW K H1 b d L fa ta su en F vD vz vm qz pm age S E tot' vals qs wm := by
  obtain ⟨dx, fs, hta⟩ := h.snd.ins
  obtain ⟨xs, h1, h2⟩ := h.sm
  obtain ⟨ys, g1, g2⟩ := h.en
  have n := no_ins hta
  refine ⟨h.bag.f e n.2, e _ _ h.row ?_, h.aD.f e n.1, h.az.f e n.1, ManIs.f e n.1 h.am, g, h.flw.f e n.1 ?_, ⟨xs, e _ _ h1 ?_, AmsF e n.1 h2⟩, ⟨ys, e _ _ g1 ?_, AmsF e n.1 g2⟩, AmsF e n.1 h.ams, fun p hp => ManIs.f e n.1 (h.mn p hp)⟩
  · exact fun z => by have := h.row; rw [List.mem_singleton.mp z, hta] at this; cases this
  · exact fun z => hne (List.mem_singleton.mp z)
  · exact fun z => by rw [List.mem_singleton.mp z, hta] at h1; cases h1
  · exact fun z => by rw [List.mem_singleton.mp z, hta] at g1; cases g1
/-- a list that the bag has nothing to do with -/
theorem LS.appS (h : LS cF cW K H b d L fa ta su en F vD vz vm qz pm age S E tot vals qs wm) (hb : BagAt K Hb b) (hn : Hb su = none) (nse : su ≠ en) {xs : List V} (hx : H su = some (.lst xs)) (hxs : Ams K H xs S) (a : Am K H v q) : LS cF cW K (upd H su (.lst (xs ++ [v]))) b d L fa ta su en F vD vz vm qz pm age (S ++ [q]) E tot vals qs wm := by
  obtain ⟨dx, fs, hta⟩ := h.snd.ins
  obtain ⟨dy, gs, hfa⟩ := h.flw.ins
  obtain ⟨ys, g1, g2⟩ := h.en
  have e : Ext [su] H (upd H su (.lst (xs ++ [v]))) := Ext.refl.at_ List.mem_cons_self
  have n := no_lst hx
  have hr := h.row
  refine ⟨hb.own hn h.bag, e _ _ h.row ?_, h.aD.f e n, h.az.f e n, ManIs.f e n h.am, h.snd.f e n ?_, h.flw.f e n ?_, ⟨_, upd_same, (AmsF e n hxs).app (Ams.cons (a.f e n) Ams.nil)⟩, ⟨ys, e _ _ g1 ?_, AmsF e n g2⟩, AmsF e n h.ams, fun p hp => ManIs.f e n (h.mn p hp)⟩
  · exact fun z => by rw [List.mem_singleton.mp z, hx] at hr; cases hr
  · exact fun z => by rw [List.mem_singleton.mp z, hx] at hta; cases hta
  · exact fun z => by rw [List.mem_singleton.mp z, hx] at hfa; cases hfa
  · exact fun z => nse (List.mem_singleton.mp z).symm
theorem LS.appE (h : LS cF cW K H b d L fa ta su en F vD vz vm qz pm age S E tot vals qs wm) (hb : BagAt K Hb b) (hn : Hb en = none) (nse : su ≠ en) {xs : List V} (hx : H en = some (.lst xs)) (hxs : Ams K H xs E) (a : Am K H v q) : LS cF cW K (upd H en (.lst (xs ++ [v]))) b d L fa ta su en F vD vz vm qz pm age S (E ++ [q]) tot vals qs wm := by
  obtain ⟨dx, fs, hta⟩ := h.snd.ins
  obtain ⟨dy, gs, hfa⟩ := h.flw.ins
  obtain ⟨ys, g1, g2⟩ := h.sm
  have e : Ext [en] H (upd H en (.lst (xs ++ [v]))) := Ext.refl.at_ List.mem_cons_self
  have n := no_lst hx
  have hr := h.row
  refine ⟨hb.own hn h.bag, e _ _ h.row ?_, h.aD.f e n, h.az.f e n, ManIs.f e n h.am, h.snd.f e n ?_, h.flw.f e n ?_, ⟨ys, e _ _ g1 ?_, AmsF e n g2⟩, ⟨_, upd_same, (AmsF e n hxs).app (Ams.cons (a.f e n) Ams.nil)⟩, AmsF e n h.ams, fun p hp => ManIs.f e n (h.mn p hp)⟩
  · exact fun z => by rw [List.mem_singleton.mp z, hx] at hr; cases hr
  · exact fun z => by rw [List.mem_singleton.mp z, hx] at hta; cases hta
  · exact fun z => by rw [List.mem_singleton.mp z, hx] at hfa; cases hfa
  · exact fun z => nse (List.mem_singleton.mp z)
end
/-! the sums -/
def X30 (n : Nat) : Nat := 30 ^ (n + 1)
theorem X30_pos (n : Nat) : 0 < X30 n := Nat.pow_pos (by decide)
theorem X30_le {n : Nat} (h : n ≤ 62) : X30 n ≤ 2 ^ 400 := by
  unfold X30
  have h1 : 30 ^ (n + 1) ≤ 32 ^ (n + 1) := Nat.pow_le_pow_left (by decide) _
  have h2 : (32 : Nat) ^ (n + 1) = 2 ^ (5 * (n + 1)) := by rw [Nat.pow_mul]
  rw [h2] at h1
  exact Nat.le_trans h1 (Nat.pow_le_pow_right (by decide) (by omega))
theorem X30_s (n : Nat) : X30 n * 30 = X30 (n + 1) := by unfold X30; rw [← Nat.pow_succ]
theorem X30_d (n : Nat) : 30 ∣ X30 n := by unfold X30; rw [Nat.pow_succ]; exact Nat.dvd_mul_left _ _
/-- what was sent up to the ticks, what came up to them -/
structure JW (z : Rat) (delay age : Nat) (S E : List Rat) (tot : Rat) (n : Nat) : Prop where
  ls : S.length = n + 1
  le : E.length = n + 1
  top : S[n]? = some tot
  bot : S[0]? = some 0
  ended : ∀ k : Nat, k ≤ n → ∃ q, E[k]? = some q ∧ S[k - delay]? = some q
  mono : ∀ (i j : Nat) (p q : Rat), i ≤ j → S[i]? = some p → S[j]? = some q → p ≤ q
  bound : ∀ q, S[n - delay - age]? = some q → tot ≤ z + q
  inx : ∀ q ∈ S, In (X30 n) (1000 * n) q
section
variable {z : Rat} {delay age : Nat} {S E : List Rat} {tot : Rat} {n : Nat}
theorem JW.get (J : JW z delay age S E tot n) {i : Nat} (h : i ≤ n) : ∃ q, S[i]? = some q ∧ In (X30 n) (1000 * n) q ∧ q ≤ tot := by
  have h1 : i < S.length := by rw [J.ls]; omega
  exact ⟨_, List.getElem?_eq_getElem h1, J.inx _ (List.getElem_mem h1), J.mono i n _ _ h (List.getElem?_eq_getElem h1) J.top⟩
theorem JW.init (hz : 0 ≤ z) : JW z delay age [0] [0] 0 0 where
  ls := rfl
  le := rfl
  top := rfl
  bot := rfl
  ended := fun k hk => ⟨0, by rw [Nat.le_zero.mp hk]; rfl, by rw [show k - delay = 0 by omega]; rfl⟩
  mono := fun i j p q h a b => by
    have hi := (List.getElem?_eq_some_iff.mp a).1
    have hj := (List.getElem?_eq_some_iff.mp b).1
    simp only [List.length_singleton] at hi hj
    obtain rfl : i = 0 := by omega
    obtain rfl : j = 0 := by omega
    rw [a] at b
    cases b
    exact Rat.le_refl
  bound := fun q h => by
    rw [show 0 - delay - age = 0 by omega] at h
    cases h
    grind
  inx := fun q h => by rw [List.mem_singleton.mp h]; exact In.zero
/-- one tick: g is sent; m: up to where the note tells -/
theorem JW.next (J : JW z delay age S E tot n) (hd : 1 ≤ delay) (hz : 0 ≤ z) {g c e : Rat} {m : Nat} (hm : m ≤ n + 1 - age - delay) (hc : S[m]? = some c) (g0 : 0 ≤ g) (hg : g ≤ restQ (z + c) tot) (ig : In (X30 (n + 1)) 1000 g) (he : S[n + 1 - delay]? = some e) :
    JW z delay age (S ++ [tot + g]) (E ++ [e]) (tot + g) (n + 1) := by
  have old : ∀ {i : Nat}, i ≤ n → (S ++ [tot + g])[i]? = S[i]? := fun h => List.getElem?_append_left (by rw [J.ls]; omega)
  have new : (S ++ [tot + g])[n + 1]? = some (tot + g) := by rw [List.getElem?_append_right (by rw [J.ls]; omega), J.ls]; simp
  have itot := J.inx tot (List.mem_of_getElem? J.top)
  refine ⟨by rw [List.length_append, J.ls]; rfl, by rw [List.length_append, J.le]; rfl, new, ?_, ?_, ?_, ?_, ?_⟩
  · rw [old (Nat.zero_le _)]; exact J.bot
  · intro k hk
    by_cases h : k ≤ n
    · obtain ⟨q, q1, q2⟩ := J.ended k h
      exact ⟨q, by rw [List.getElem?_append_left (by rw [J.le]; omega)]; exact q1, by rw [old (by omega)]; exact q2⟩
    · obtain rfl : k = n + 1 := by omega
      exact ⟨e, by rw [List.getElem?_append_right (by rw [J.le]; omega), J.le]; simp, by rw [old (by omega)]; exact he⟩
  · intro i j p q hij a b
    have hj := (List.getElem?_eq_some_iff.mp b).1
    rw [List.length_append, J.ls, List.length_singleton] at hj
    by_cases h : j ≤ n
    · rw [old h] at b
      rw [old (by omega)] at a
      exact J.mono i j p q hij a b
    · obtain rfl : j = n + 1 := by omega
      rw [new] at b
      cases b
      by_cases h2 : i ≤ n
      · rw [old h2] at a
        have := J.mono i n p tot h2 a J.top
        grind
      · obtain rfl : i = n + 1 := by omega
        rw [new] at a
        cases a
        exact Rat.le_refl
  · intro q hq
    have hi : n + 1 - delay - age ≤ n := by omega
    rw [old hi] at hq
    obtain ⟨q0, h0, _, _⟩ := J.get (i := n - delay - age) (by omega)
    have b0 := J.bound q0 h0
    have m1 := J.mono _ _ _ _ (by omega : n - delay - age ≤ n + 1 - delay - age) h0 hq
    have m2 := J.mono _ _ _ _ (by omega : m ≤ n + 1 - delay - age) hc hq
    unfold restQ at hg
    split at hg <;> grind
  · intro q hq
    rcases List.mem_append.mp hq with h | h
    · have := (J.inx q h).up (show X30 n ∣ X30 (n + 1) by rw [← X30_s]; exact Nat.dvd_mul_right _ _)
      exact this.most (by omega)
    · rw [List.mem_singleton.mp h]
      have := (itot.up (show X30 n ∣ X30 (n + 1) by rw [← X30_s]; exact Nat.dvd_mul_right _ _)).add ig
      exact this.most (by omega)
end
theorem at_lastV {xs : List V} {n : Nat} {v : V} (hn : xs.length = n + 1) (h : xs[n]? = some v) : atI xs (-1) = some v := by
  unfold atI ixN
  rw [if_neg (by decide), if_pos (by omega)]
  simp only [Option.bind_some]
  rw [show ((-1 : Int) + (xs.length : Int)).toNat = n by omega]
  exact h
end Yk

set_option maxHeartbeats 32000000
namespace Yk
open PySem PySem.Spec PyProof.Rows L2

local macro_rules | `(tactic| walk_at "st") => `(tactic| first
  | with_reducible refine' r_tAt ?_
  | ((with_reducible refine' r_fld ?h1 ?h2 ?h3); (case h1 => first | assumption | exact upd_same); (case h2 => first | walk_at "lk" | rfl))
  | with_reducible refine' r_sAt ?_
  | ((with_reducible refine' r_putU ?h1 ?h2); (case h1 => (repeat refine putF_lt ?_); decide))
  | ((with_reducible refine' r_put ?h1 ?h2 ?h3); (case h1 => first | assumption | exact upd_same); (case h2 => (repeat refine putF_lt ?_); decide))
  | with_reducible refine' r_tMt ?_
  | ((with_reducible refine' r_met ?h1 ?h2 ?h3); (case h1 => first | assumption | exact upd_same); (case h2 => first | walk_at "lk" | rfl))
  | with_reducible refine' r_tCr ?_
  | with_reducible refine' r_tCrK ?_
  | with_reducible refine' r_chain ?_)
local macro_rules | `(tactic| walk_at "st") => `(tactic| first
  | with_reducible refine' r_dget ?_
  | with_reducible refine' r_dc ?_
  | with_reducible refine' r_iVals ?_
  | with_reducible refine' r_dnotin ?_
  | with_reducible refine' r_din ?_
  | with_reducible refine' r_iItems ?_
  | with_reducible refine' r_iKeysT ?_
  | with_reducible refine' r_tget1 ?_
  | with_reducible refine' r_tget2 ?_
  | with_reducible refine' r_dput ?_
  | with_reducible refine' r_tPr ?_
  | ((with_reducible refine' r_prp2 ?h1 ?h2); (case h1 => first | assumption | exact upd_same))
  | with_reducible refine' r_par3 ?_
  | ((with_reducible refine' r_dnT ?_); (intro np hnp))
  | ((with_reducible refine' r_dnK ?_); (intro np hnp)))
/-! The law of windows by parts. -/
local macro_rules | `(tactic| walk_at "lk") => `(tactic| first | with_reducible exact lk_S_flow | with_reducible exact lk_S_total | with_reducible exact lk_S_came | with_reducible exact lk_S_offer | with_reducible exact lk_S_note | with_reducible exact lk_S_asks)
theorem k_winx {cF cW : Addr} {K : PySem.W.Frag} {H : Hp} {vf : V} {age : Int} {F : FlowD} {R : Hp → Prop} {E : XK} {x dx : Addr} (hf : FlowAt cF K H vf F) (nx : H x = none) (ndx : H dx = none) (nex : dx ≠ x) (k : ∀ H', Ext [] H H' → SendAt cW K H' x vf age F.n 0 → R H') : spWinInit cF cW K [V.ref x, vf, .int age] (upd (upd H dx (.own x)) x (.ins cW dx [])) (fun v H2 => v = .non ∧ R H2) E :=
by
  have h : spWinInit cF cW K [V.ref x, vf, .int age] (upd (upd H dx (.own x)) x (.ins cW dx [])) (fun v H2 => v = .non ∧ (V.ref x = V.ref x → R H2)) E := k_win (Q := fun v H' => v = .ref x → R H') hf (fun a H' e hs hn z => by cases z; exact k H' e hs) x dx nx ndx nex
  obtain ⟨a, dx', vf', age', F', e1, h1, h2, h3, h4⟩ := h
  exact ⟨a, dx', vf', age', F', e1, h1, h2, h3, fun H' e hs => ⟨(h4 H' e hs).1, (h4 H' e hs).2 rfl⟩⟩
theorem r_disp1T {tk tv : TE} {σ : L2.St} {H : Hp} {Q : VK} (h : ∀ p, H p = none → tk σ (upd H p (.dT [])) fun x H1 => tv σ H1 fun y H2 => ∃ (b : Addr) (k : List Key), x = .ref b ∧ H2 b = some (.tup (k.map kV)) ∧ H2 p = some (.dT []) ∧ Q (.ref p) (upd H2 p (.dT [(k, y)]))) : tDisp1T tk tv σ H Q := h
def spLaw80 (K : PySem.W.Frag) : Sp := fun vs H Q _ => ∃ (a : Addr) (ns : List Int), vs = [.ref a] ∧ SqL K H a (ns.map V.int) ∧ ns.length ≤ 63 ∧ ∀ H', Q (.bl true) H'
section
variable {P : Program} {w : World} {K : PySem.W.Frag} {mg : Str → Option Value} {base : Heap} {f : Addr} {fd : FuncData}
abbrev s_law : Stmt := top 70
theorem c_law : FnScope ["_law_script", "_law_bag_here", "_law_row", "_law_delay", "_law_age_of", "_law_exact", "_law_flow_told", "_law_name_here", "_law_told", "_law_gone_at", "_law_partly", "_law_sums", "_law_ended", "_law_now_of", "_law_made", "_law_came", "_law_wish_here", "_law_out", "_law_due", "_law_given", "_law_before", "_law_most"] ["_law_script"] (defScope s_law) := ⟨rfl, rfl, rfl, by decide +kernel, rfl, by decide +kernel, by decide +kernel⟩
theorem f_law (F : FunD K "law" "law" (defArgs s_law) (defBody s_law) (defScope s_law) [] [] f fd) (hm : mg "law" = some (.ref f)) {cF cW : Addr} (T : Bt mg) (TWindowSender : Ct K mg "WindowSender" cW ["flow", "age", "total", "_came"]) (RWindowSender : Cr P w K mg base 2 "WindowSender" cW (spWinInit cF cW K)) (MWindowSender_offer : Mt P w K mg base 3 cW "offer" (spOffer cF cW K)) (MWindowSender_note_sent : Mt P w K mg base 3 cW "note_sent" (spNote cW K)) (MWindowSender_asks : Mt P w K mg base 1 cW "asks" (spAsks K)) (EFlow : Oe P w K mg base 1 cF (FlowR cF K)) (Fsender_of : Fn P w K mg base 4 "sender_of" (spSendOf cF cW K)) (F_law_bag : Fn P w K mg base 1 "_law_bag" (spBag K)) (F_law_draw : Fn P w K mg base 1 "_law_draw" (spDraw K)) (F_law_part : Fn P w K mg base 3 "_law_part" (spPart K)) (F_law_sum : Fn P w K mg base 2 "_law_sum" (sp2 (fun _ _ => True) (· + ·) K)) (F_law_rest : Fn P w K mg base 2 "_law_rest" (sp2 (fun _ _ => True) restQ K)) (F_law_less : Fn P w K mg base 1 "_law_less" (spLess K)) (F_law_min : Fn P w K mg base 2 "_law_min" (sp2 (fun _ _ => True) lmin K)) (F_law_same : Fn P w K mg base 4 "_law_same" (spLike K 4)) (F_law_window : Fn P w K mg base 6 "_law_window" (spWindow K)) (F_law_made_flow : Fn P w K mg base 8 "_law_made_flow" (spMade cF K)) : FnOk P w K mg base CX0 9 f fd ["_law_script"] (spLaw80 K) := by
  refine ok_def F c_law (fun vs H Q E h => ?_) (fun cdv A outer s H vs Q E hr h => ?_)
  · obtain ⟨a, ns, rfl, _⟩ := h
    rfl
  · obtain ⟨sc, ns, rfl, hl, h63, k⟩ := h
    have nd := c_law.nd
    refine ⟨_, (pss_cons (ps_set (i := 1) nd rfl (by first | exact Or.inl rfl | exact Or.inr rfl) (pe_fn F_law_bag (hr.mono (by decide)) (pa_cons (pv 0) pa_nil)))
      (pss_cons (ps_asg (pe_tup (pa_cons (pe_fn F_law_window (hr.mono (by decide)) (pa_cons (pv 1) pa_nil)) (pa_cons (pe_op op_add pe_int (pe_fn F_law_draw (hr.mono (by decide)) (pa_cons (pv 1) (pa_cons pe_int pa_nil)))) (pa_cons (pe_op op_add pe_int (pe_fn F_law_draw (hr.mono (by decide)) (pa_cons (pv 1) (pa_cons pe_int pa_nil)))) (pa_cons (pe_cmpR op_eq (pe_fn F_law_draw (hr.mono (by decide)) (pa_cons (pv 1) (pa_cons pe_int pa_nil))) pe_int (nomark _)) pa_nil))))) (pg_tup rfl (pgs_cons (pg_name (i := 2) nd rfl (by first | exact Or.inl rfl | exact Or.inr rfl)) (pgs_cons (pg_name (i := 3) nd rfl (by first | exact Or.inl rfl | exact Or.inr rfl)) (pgs_cons (pg_name (i := 4) nd rfl (by first | exact Or.inl rfl | exact Or.inr rfl)) (pgs_cons (pg_name (i := 5) nd rfl (by first | exact Or.inl rfl | exact Or.inr rfl)) pgs_nil))))))
      (pss_cons (ps_par (i := 6) (j := 7) (by rfl) nd rfl rfl (by decide) rfl rfl (pa_cons (pe_fn F_law_made_flow (hr.mono (by decide)) (pa_cons (pv 2) pa_nil)) (pa_cons (pe_dget (hu_of hr) (pv 2) pe_str (fun _ _ => rfl)) pa_nil)) (by rfl))
      (pss_mid (ps_set (i := 8) nd rfl (by first | exact Or.inl rfl | exact Or.inr rfl) (pe_ifExp (pt_cmpR op_eq (pe_fn F_law_draw (hr.mono (by decide)) (pa_cons (pv 1) (pa_cons pe_int pa_nil))) pe_int (nomark _)) (pe_cr RWindowSender (hr.mono (by decide)) (pa_cons (pv 6) (pa_cons (pv 4) pa_nil))) (pe_fn Fsender_of (hr.mono (by decide)) (pa_cons (pv 6) (pa_cons (pv 4) pa_nil)))))
      (pss_mid (ps_par (i := 9) (j := 10) (by rfl) nd rfl rfl (by decide) rfl rfl (pa_cons (pe_op op_sub (pe_fn F_law_draw (hr.mono (by decide)) (pa_cons (pv 1) (pa_cons pe_int pa_nil))) pe_int) (pa_cons (pe_and (pe_not (pv 5)) (pe_one (pe_cmpR op_eq (pe_fn F_law_draw (hr.mono (by decide)) (pa_cons (pv 1) (pa_cons pe_int pa_nil))) pe_int (nomark _)))) pa_nil)) (by rfl))
      (pss_cons (ps_par (i := 11) (j := 12) (by rfl) nd rfl rfl (by decide) rfl rfl (pa_cons (pe_lst (pa_cons (pe_tup (pa_cons pe_int (pa_cons pe_int pa_nil))) pa_nil)) (pa_cons (pe_lst (pa_cons (pe_tup (pa_cons pe_int (pa_cons pe_int pa_nil))) pa_nil)) pa_nil)) (by rfl))
      (pss_cons (ps_for PassesOwn.never rfl (pi_range1 rfl T.range (pa_cons (pe_op op_add pe_int (pe_fn F_law_draw (hr.mono (by decide)) (pa_cons (pv 1) (pa_cons pe_int pa_nil)))) pa_nil)) (pg_name (i := 13) nd rfl (by first | exact Or.inl rfl | exact Or.inr rfl))
        (pss_mid (ps_set (i := 14) nd rfl (by first | exact Or.inl rfl | exact Or.inr rfl) (pe_ifExp (pt_val (pv 5)) (pe_op op_sub (pv 13) (pv 4)) (pe_op op_sub (pe_op op_sub (pv 13) (pv 4)) (pe_fn F_law_draw (hr.mono (by decide)) (pa_cons (pv 1) (pa_cons pe_int pa_nil))))))
        (pss_mid (ps_set (i := 15) nd rfl (by first | exact Or.inl rfl | exact Or.inr rfl) (pe_ifExp (pt_cmpR op_ge (pv 14) pe_int (nomark _)) (pe_ix ix_list (pv 12) (pe_op op_add (pv 14) pe_int) (fun _ _ => rfl)) (pe_tup (pa_cons pe_int (pa_cons pe_int pa_nil)))))
        (pss_mid (ps_set (i := 16) nd rfl (by first | exact Or.inl rfl | exact Or.inr rfl) (pe_ifExp (PW.pt (pw_and (pt_not (pt_val (pv 5))) (pw_and (pt_chain op_le op_le (pv 9) (pv 13) (pe_op op_add (pv 9) pe_int)) (pw_and1 (pt_cmpR op_ge (pv 9) pe_int (nomark _)))))) (pe_tup pa_nil) (pe_dget (hu_of hr) (pv 2) pe_str (fun _ _ => rfl))))
        (pss_cons (ps_set (i := 17) nd rfl (by first | exact Or.inl rfl | exact Or.inr rfl) (pe_ix ix_list (pv 11) (pe_un un_neg pe_int) (fun _ _ => rfl)))
        (pss_mid (ps_set (i := 18) nd rfl (by first | exact Or.inl rfl | exact Or.inr rfl) (pe_ifExp (pt_cmpR (op_eqD hr.units) (pv 16) (pe_tup pa_nil) (nomark _)) (pe_tup (pa_cons pe_int (pa_cons pe_int pa_nil))) (pe_fn F_law_min (hr.mono (by decide)) (pa_cons (pe_dget (hu_of hr) (pv 2) pe_str (fun _ _ => rfl)) (pa_cons (pe_fn F_law_rest (hr.mono (by decide)) (pa_cons (pe_fn F_law_sum (hr.mono (by decide)) (pa_cons (pe_dget (hu_of hr) (pv 2) pe_str (fun _ _ => rfl)) (pa_cons (pv 15) pa_nil))) (pa_cons (pv 17) pa_nil))) pa_nil)))))
        (pss_cons (ps_if (pt_not (pt_val (pe_fn F_law_same (hr.mono (by decide)) (pa_cons (pe_mt MWindowSender_offer (hr.mono (by decide)) (pv 8) (pa_cons (pv 13) (pa_cons (pv 16) (pa_cons (pe_disp1T (hu_of hr) (pe_tup (pa_cons pe_str (pa_cons (pv 7) (pa_cons (pv 7) (pa_cons (pv 7) pa_nil))))) (pv 15)) pa_nil)))) (pa_cons (pv 18) pa_nil)))))
          (pss_one (ps_ret pe_bl))
          pss_nil)
        (pss_mid (ps_set (i := 19) nd rfl (by first | exact Or.inl rfl | exact Or.inr rfl) (pe_ifExp (pt_val (pv 10)) (pe_fn F_law_part (hr.mono (by decide)) (pa_cons (pv 1) (pa_cons (pv 18) pa_nil))) (pv 18)))
        (pss_mid (ps_if (pt_cmpR op_gt (pe_ix ix_tup (pv 19) pe_int (fun _ _ => rfl)) (pe_op op_pow pe_int pe_int) (nomark _))
          (pss_one (ps_set (i := 19) nd rfl (by first | exact Or.inl rfl | exact Or.inr rfl) (pv 18)))
          pss_nil)
        (pss_cons (ps_expr (pe_mt MWindowSender_note_sent (hr.mono (by decide)) (pv 8) (pa_cons (pv 19) pa_nil)))
        (pss_cons (ps_expr (pe_bm PySem.F.plainAttrs_list PySem.F.slot_list_append PySem.F.type_list_append mt_append (pv 11) (pa_cons (pe_fn F_law_sum (hr.mono (by decide)) (pa_cons (pv 17) (pa_cons (pv 19) pa_nil))) pa_nil)))
        (pss_mid (ps_expr (pe_bm PySem.F.plainAttrs_list PySem.F.slot_list_append PySem.F.type_list_append mt_append (pv 12) (pa_cons (pe_ifExp (pt_cmpR op_ge (pe_op op_add (pv 13) pe_int) (pv 3) (nomark _)) (pe_ix ix_list (pv 11) (pe_op op_sub (pe_op op_add (pv 13) pe_int) (pv 3)) (fun _ _ => rfl)) (pe_tup (pa_cons pe_int (pa_cons pe_int pa_nil)))) pa_nil)))
        (pss_cons (ps_if (PW.pt (pw_or (pt_not (pt_val (pe_fn F_law_same (hr.mono (by decide)) (pa_cons (pe_at TWindowSender (by decide +kernel) (pv 8)) (pa_cons (pe_ix ix_list (pv 11) (pe_un un_neg pe_int) (fun _ _ => rfl)) pa_nil))))) (pw_or1 (pt_not (pt_val (pe_fn F_law_same (hr.mono (by decide)) (pa_cons (pe_mt MWindowSender_asks (hr.mono (by decide)) (pv 8) (pa_cons (pv 16) pa_nil)) (pa_cons (pe_tup (pa_cons pe_int (pa_cons pe_int pa_nil))) pa_nil))))))))
          (pss_one (ps_ret pe_bl))
          pss_nil)
        (pss_cons (ps_if (pt_val (pe_fn F_law_less (hr.mono (by decide)) (pa_cons (pe_dget (hu_of hr) (pv 2) pe_str (fun _ _ => rfl)) (pa_cons (pe_fn F_law_rest (hr.mono (by decide)) (pa_cons (pe_ix ix_list (pv 11) (pe_un un_neg pe_int) (fun _ _ => rfl)) (pa_cons (pe_ix ix_list (pv 12) (pe_un un_neg pe_int) (fun _ _ => rfl)) pa_nil))) pa_nil))))
          (pss_one (ps_ret pe_bl))
          pss_nil)
        (pss_cons (ps_set (i := 20) nd rfl (by first | exact Or.inl rfl | exact Or.inr rfl) (pe_ix ix_list (pv 11) (pe_callB (call_max2 rfl) (by rfl) T.max (by decide +kernel) (pa_cons (pe_op op_sub (pe_op op_sub (pe_op op_add (pv 13) pe_int) (pv 3)) (pv 4)) (pa_cons pe_int pa_nil))) (fun _ _ => rfl)))
        (pss_cons (ps_if (pt_val (pe_fn F_law_less (hr.mono (by decide)) (pa_cons (pe_dget (hu_of hr) (pv 2) pe_str (fun _ _ => rfl)) (pa_cons (pe_fn F_law_rest (hr.mono (by decide)) (pa_cons (pe_ix ix_list (pv 11) (pe_un un_neg pe_int) (fun _ _ => rfl)) (pa_cons (pv 20) pa_nil))) pa_nil))))
          (pss_one (ps_ret pe_bl))
          pss_nil)
        (pss_one (ps_if (pt_val (pv 5))
          (pss_cons (ps_set (i := 21) nd rfl (by first | exact Or.inl rfl | exact Or.inr rfl) (pe_fn F_law_sum (hr.mono (by decide)) (pa_cons (pe_dget (hu_of hr) (pv 2) pe_str (fun _ _ => rfl)) (pa_cons (pv 20) pa_nil))))
          (pss_one (ps_if (pt_not (pt_val (pe_fn F_law_same (hr.mono (by decide)) (pa_cons (pe_at TWindowSender (by decide +kernel) (pv 8)) (pa_cons (pe_fn F_law_min (hr.mono (by decide)) (pa_cons (pe_fn F_law_sum (hr.mono (by decide)) (pa_cons (pv 17) (pa_cons (pe_dget (hu_of hr) (pv 2) pe_str (fun _ _ => rfl)) pa_nil))) (pa_cons (pv 21) pa_nil))) pa_nil)))))
            (pss_one (ps_ret pe_bl))
            pss_nil)))
          pss_nil))))))))))))))))))
      (pss_one (ps_ret (pe_cmpR (op_own EFlow (hr.mono (by decide))) (pe_at TWindowSender (by decide +kernel) (pv 8)) (pv 6) (nomark _))))))))))), ?_⟩
    show (_ : TS) _ [some _, none, none, none, none, none, none, none, none, none, none, none, none, none, none, none, none, none, none, none, none, none] _
    try dsimp only [cxOf, Cx.nox]
    walk_at "go"
    refine ⟨sc, ns, rfl, hl, h63, fun b H1 hn e1 b1 => ?_⟩
    walk_at "go"
    refine ⟨b, rfl, b1, fun d F pm qz H2 okF hFd hFz hFm row2 b2 n2 => ?_⟩
    walk_at "go"
    refine k_draw b2 (by omega) (by decide) fun dl H3 dl0 dl1 b3 n3 => ?_
    walk_at "go"
    refine k_draw b3 (by omega) (by decide) fun ag H4 ag0 ag1 b4 n4 => ?_
    walk_at "go"
    refine k_draw b4 (by omega) (by decide) fun ex H5 ex0 ex1 b5 n5 => ?_
    have row5 := ((row2.bg b2 n3).bg b3 n4).bg b4 n5
    obtain ⟨delay, hdel, del1, del6⟩ : ∃ n : Nat, 1 + dl = (n : Int) ∧ 1 ≤ n ∧ n ≤ 6 := ⟨(1 + dl).toNat, by omega, by omega, by omega⟩
    obtain ⟨age, hage, age1, age4⟩ : ∃ n : Nat, 1 + ag = (n : Int) ∧ 1 ≤ n ∧ n ≤ 4 := ⟨(1 + ag).toNat, by omega, by omega, by omega⟩
    clear row2 b1 b2 b3 b4 n2 n3 n4 n5 e1 hn hl h63
    walk_at "go"
    rename_i tp htp
    generalize decide (V.int ex = V.int 0) = exact_
    rw [hdel, hage]
    have row6 := row5.x0 (Ext.refl.new (o := .tup [V.ref d, V.int (delay : Int), V.int (age : Int), V.bl exact_]) htp)
    have b6 := b5.new (o := .tup [V.ref d, V.int (delay : Int), V.int (age : Int), V.bl exact_]) htp
    generalize upd H5 tp (.tup [V.ref d, V.int (delay : Int), V.int (age : Int), V.bl exact_]) = H6 at *
    clear row5 b5 htp
    refine ⟨b, d, F, rfl, row6, okF, fun vf H7 e7 hf7 hfr => ?_⟩
    obtain ⟨fa, rfl, hfa6⟩ := hfr
    have row7 := row6.x0 e7
    have b7 := b6.x0 e7
    clear row6 b6 e7 hfa6
    obtain ⟨L, vz, vg, vG, vD, vm, hL7, lL, lname, _, _, _, _, _, _, _, _, ldoor, aD7, lwish, am7, lsize, az7⟩ := row7.row
    rw [hFm] at am7
    rw [hFz] at az7
    walk_at "go"
    refine r_getS hL7 lname ?_
    walk_at "go"
    refine r_mid (fun σ' H' => ∃ ta, σ' = [some (V.ref sc), some (V.ref b.a), some (V.ref d), some (V.int (delay : Int)), some (V.int (age : Int)), some (V.bl exact_), some (V.ref fa), some (V.str F.n), some (V.ref ta), none, none, none, none, none, none, none, none, none, none, none, none, none] ∧ BagAt K H' b ∧ SendAt cW K H' ta (.ref fa) (age : Int) F.n 0 ∧ fa ≠ ta ∧ H' d = some (.dK L) ∧ Am K H' vD F.g ∧ Am K H' vz qz ∧ ManIs K H' vm (some pm) ∧ FlowAt cF K H' (.ref fa) F) ?_ ?_
    · walk_at "go"
      refine k_draw b7 (by omega) (by decide) fun y H8 y0 y1 b8 n8 => ?_
      have hf8 := hf7.bg b7 n8
      have hL8 : H8 d = some (.dK L) := n8 _ _ hL7 fun z => bag_ne_dk b7 hL7 (List.mem_singleton.mp z)
      have aD8 := aD7.b b7 n8
      have az8 := az7.1.b b7 n8
      have am8 : ManIs K H8 vm (some pm) := ManIs.x n8 am7 fun a ha => by rw [List.mem_singleton.mp ha]; exact b7.lst
      have fin : ∀ ta H', Ext [] H8 H' → SendAt cW K H' ta (.ref fa) (age : Int) F.n 0 → H8 ta = none → ∃ ta', [some (V.ref sc), some (V.ref b.a), some (V.ref d), some (V.int (delay : Int)), some (V.int (age : Int)), some (V.bl exact_), some (V.ref fa), some (V.str F.n), some (V.ref ta), none, none, none, none, none, none, none, none, none, none, none, none, none] = [some (V.ref sc), some (V.ref b.a), some (V.ref d), some (V.int (delay : Int)), some (V.int (age : Int)), some (V.bl exact_), some (V.ref fa), some (V.str F.n), some (V.ref ta'), none, none, none, none, none, none, none, none, none, none, none, none, none] ∧ BagAt K H' b ∧ SendAt cW K H' ta' (.ref fa) (age : Int) F.n 0 ∧ fa ≠ ta' ∧ H' d = some (.dK L) ∧ Am K H' vD F.g ∧ Am K H' vz qz ∧ ManIs K H' vm (some pm) ∧ FlowAt cF K H' (.ref fa) F := fun ta H' e' hs hn => by
        refine ⟨ta, rfl, b8.x0 e', hs, fun z => ?_, e' _ _ hL8 (fun z => nomatch z), aD8.x0 e', az8.x0 e', ManIs.x0 e' am8, hf8.x0 e'⟩
        obtain ⟨dx, fs, h⟩ := hf8.ins
        rw [z, hn] at h
        cases h
      walk_at "go"
      refine r_dec (fun _ => ?_) (fun _ => ?_)
      · walk_at "go"
        intro ta dxa nta ndx nex
        refine k_winx hf8 nta ndx nex fun H' e' hs => ?_
        walk_at "go"
        exact fin ta H' e' hs nta
      · walk_at "go"
        refine ⟨.ref fa, (age : Int), F, rfl, hf8, hFd, fun ta H' e' hs hn => ?_⟩
        walk_at "go"
        exact fin ta H' e' hs hn
    · clear row7 b7 hL7 aD7 am7 az7 hf7
      rintro σ H8 ⟨ta, rfl, b8, hs8, hfta, hL8, aD8, az8, am8, hf8⟩
      walk_at "go"
      refine r_mid (fun σ' H' => ∃ (ga : Int) (pt : Bool), σ' = [some (V.ref sc), some (V.ref b.a), some (V.ref d), some (V.int (delay : Int)), some (V.int (age : Int)), some (V.bl exact_), some (V.ref fa), some (V.str F.n), some (V.ref ta), some (V.int ga), some (V.bl pt), none, none, none, none, none, none, none, none, none, none, none] ∧ (exact_ = true → pt = false) ∧ BagAt K H' b ∧ Ext [b.a] H8 H') ?_ ?_
      · walk_at "go"
        refine k_draw b8 (by omega) (by decide) fun y H9 y0 y1 b9 n9 => ?_
        walk_at "go"
        cases exact_ with
        | true =>
          walk_at "run"
          exact ⟨_, false, rfl, fun _ => rfl, b9, n9⟩
        | false =>
          walk_at "run"
          refine k_draw b9 (by omega) (by decide) fun y2 H10 y20 y21 b10 n10 => ?_
          walk_at "run"
          exact ⟨_, _, rfl, (fun z => nomatch z), b10, n9.trans n10⟩
      · rintro σ H9 ⟨ga, pt, rfl, hpt, b9, n9⟩
        have hbs : ∀ a ∈ [b.a], ∃ l, H8 a = some (.lst l) := fun a ha => by rw [List.mem_singleton.mp ha]; exact b8.lst
        have nb8 : NoTup H8 [b.a] := no_lst (hbs b.a (by simp)).choose_spec
        have hs9 : SendAt cW K H9 ta (.ref fa) (age : Int) F.n 0 := hs8.f n9 nb8 fun z => by
          obtain ⟨l, h⟩ := hbs _ z
          obtain ⟨dx, fs, g⟩ := hs8.ins
          rw [h] at g
          cases g
        have hL9 : H9 d = some (.dK L) := n9 _ _ hL8 fun z => bag_ne_dk b8 hL8 (List.mem_singleton.mp z)
        have aD9 := aD8.b b8 n9
        have az9 := az8.b b8 n9
        have am9 : ManIs K H9 vm (some pm) := ManIs.x n9 am8 hbs
        have hf9 := hf8.bg b8 n9
        clear hs8 hL8 aD8 az8 am8 hf8 nb8 hbs n9 b8
        walk_at "go"
        rename_i q1 hq1 su hsu q2 hq2 en hen
        generalize hG : upd _ en _ = H10
        have e10 : Ext [] H9 H10 := by rw [← hG]; walk_at "ext"
        have hsu9 : H9 su = none := (Ext.refl.new hq1).free hsu
        have hen9 : H9 en = none := (((Ext.refl.new hq1).new hsu).new hq2).free hen
        have nse : su ≠ en := fun z => by rw [← z, upd_ne (fun z => by rw [z, upd_same] at hq2; cases hq2), upd_same] at hen; cases hen
        have nbs : b.a ≠ su := b9.ne hsu9
        have nbe : b.a ≠ en := b9.ne hen9
        have Z0 : LS cF cW K H10 b d L fa ta su en F vD vz vm qz pm (age : Int) [0] [0] 0 [] [] [] := by
          refine ⟨b9.x0 e10, e10 _ _ hL9 (fun z => nomatch z), aD9.x0 e10, az9.x0 e10, ManIs.x0 e10 am9, hs9.x0 e10, hf9.x0 e10, ⟨[.ref q1], ?_, Ams.cons ⟨q1, rfl, ?_⟩ Ams.nil⟩, ⟨[.ref q2], ?_, Ams.cons ⟨q2, rfl, ?_⟩ Ams.nil⟩, Ams.nil, fun _ z => nomatch z⟩
          · rw [← hG, upd_ne nse, upd_ne (fun z => by rw [← z, upd_same] at hq2; cases hq2), upd_same]
          · rw [← hG]; show SqT K _ q1 [.int 0, .int 1]; walk_at "sq"
          · rw [← hG, upd_same]
          · rw [← hG]; show SqT K _ q2 [.int 0, .int 1]; walk_at "sq"
        clear hG hq1 hsu hq2 hen e10
        refine r_for ?_
        walk_at "go"
        refine k_draw Z0.bag (by omega) (by decide) fun m H11 m0 m1 b11 n11 => ?_
        have Z1 := Z0.bg b11 n11 nbs nbe
        clear Z0 n11 b11
        walk_at "go"
        refine ⟨_, rfl, by omega, by omega, ?_⟩
        have iz : In 30 1000 qz := okF.iz qz hFz
        refine r_loopR (n := (15 + m).toNat) (fun i σ H' => ∃ S E tot u13 u14 u15 u16 u17 u18 u19 u20 u21, σ = [some (V.ref sc), some (V.ref b.a), some (V.ref d), some (V.int (delay : Int)), some (V.int (age : Int)), some (V.bl exact_), some (V.ref fa), some (V.str F.n), some (V.ref ta), some (V.int ga), some (V.bl pt), some (V.ref su), some (V.ref en), u13, u14, u15, u16, u17, u18, u19, u20, u21] ∧ LS cF cW K H' b d L fa ta su en F vD vz vm qz pm (age : Int) S E tot [] [] [] ∧ JW qz delay age S E tot i) ⟨[0], [0], 0, _, _, _, _, _, _, _, _, _, rfl, Z1, JW.init iz.nn⟩ ?_ ?_
        · clear Z1 hs9 hL9 aD9 az9 am9 hf9
          rintro i σ H12 hi ⟨S, E, tot, u13, u14, u15, u16, u17, u18, u19, u20, u21, rfl, Z, J⟩
          have hi60 : i ≤ 60 := by omega
          have X0 := X30_pos (i + 1)
          have X4 : X30 (i + 1) ≤ 2 ^ 400 := X30_le (by omega)
          have Xd := X30_d (i + 1)
          have Xu : X30 i ∣ X30 (i + 1) := by rw [← X30_s]; exact Nat.dvd_mul_right _ _
          have m62 : 1000 * i ≤ 62000 := by omega
          rw [Int.zero_add]
          walk_at "go"
          refine r_mid (fun σ' H' => ∃ (x : Nat) (made : Int), σ' = [some (V.ref sc), some (V.ref b.a), some (V.ref d), some (V.int (delay : Int)), some (V.int (age : Int)), some (V.bl exact_), some (V.ref fa), some (V.str F.n), some (V.ref ta), some (V.int ga), some (V.bl pt), some (V.ref su), some (V.ref en), some (V.int (i : Int)), some (V.int made), u15, u16, u17, u18, u19, u20, u21] ∧ made = (i : Int) - age - x ∧ (exact_ = true → x = 0) ∧ LS cF cW K H' b d L fa ta su en F vD vz vm qz pm (age : Int) S E tot [] [] []) ?_ ?_
          · walk_at "go"
            cases exact_ with
            | true =>
              walk_at "run"
              exact ⟨0, _, rfl, by omega, fun _ => rfl, Z⟩
            | false =>
              walk_at "run"
              refine k_draw Z.bag (by omega) (by decide) fun x H13 x0 x1 b13 n13 => ?_
              walk_at "run"
              exact ⟨x.toNat, _, rfl, by omega, (fun z => nomatch z), Z.bg b13 n13 nbs nbe⟩
          · clear Z
            rintro σ H13 ⟨x, made, rfl, hmade, hx, Z⟩
            walk_at "go"
            refine r_mid (fun σ' H' => ∃ vc qc, σ' = [some (V.ref sc), some (V.ref b.a), some (V.ref d), some (V.int (delay : Int)), some (V.int (age : Int)), some (V.bl exact_), some (V.ref fa), some (V.str F.n), some (V.ref ta), some (V.int ga), some (V.bl pt), some (V.ref su), some (V.ref en), some (V.int (i : Int)), some (V.int made), some vc, u16, u17, u18, u19, u20, u21] ∧ S[i + 1 - age - x - delay]? = some qc ∧ LS cF cW K H' b d L fa ta su en F vD vz vm qz pm (age : Int) S E tot [vc] [qc] []) ?_ ?_
            · walk_at "go"
              refine r_dec (fun hm => ?_) (fun hm => ?_)
              · obtain ⟨k, hk⟩ : ∃ k : Nat, made = (k : Int) := ⟨made.toNat, by omega⟩
                obtain ⟨q, hq1, hq2⟩ := J.ended (k + 1) (by omega)
                obtain ⟨ys, g1, g2⟩ := Z.en
                obtain ⟨v, hv, av⟩ := g2.pick hq1
                walk_at "go"
                refine r_ixL (.inl (.inl g1)) (at_n (by omega : made + 1 = ((k + 1 : Nat) : Int)) hv) ?_
                walk_at "go"
                exact ⟨v, q, rfl, by rw [show i + 1 - age - x - delay = k + 1 - delay by omega]; exact hq2, Z.add av⟩
              · walk_at "go"
                rename_i p hp
                exact ⟨_, 0, rfl, by rw [show i + 1 - age - x - delay = 0 by omega]; exact J.bot, (Z.x0 (Ext.refl.new hp)).add ⟨p, rfl, tupS⟩⟩
            · clear Z
              rintro σ H14 ⟨vc, qc, rfl, hqc, Z⟩
              walk_at "go"
              refine r_mid (fun σ' H' => ∃ vw mw, σ' = [some (V.ref sc), some (V.ref b.a), some (V.ref d), some (V.int (delay : Int)), some (V.int (age : Int)), some (V.bl exact_), some (V.ref fa), some (V.str F.n), some (V.ref ta), some (V.int ga), some (V.bl pt), some (V.ref su), some (V.ref en), some (V.int (i : Int)), some (V.int made), some vc, some vw, u17, u18, u19, u20, u21] ∧ (exact_ = true → mw = some pm) ∧ LS cF cW K H' b d L fa ta su en F vD vz vm qz pm (age : Int) S E tot [vc] [qc] [(vw, mw)]) ?_ ?_
              · have els : ∀ {R : V → Prop}, (R vm) → ∃ a v', V.ref d = V.ref a ∧ DGet H14 a (V.str "wish") (some v') ∧ R v' := fun h => r_getS Z.row lwish h
                walk_at "go"
                cases exact_ with
                | true =>
                  walk_at "run"
                  refine r_getS Z.row lwish ?_
                  walk_at "run"
                  exact ⟨vm, some pm, rfl, fun _ => rfl, Z.addM Z.am⟩
                | false =>
                  walk_at "run"
                  refine r_dec (fun _ => ?_) (fun _ => ?_)
                  · walk_at "run"
                    refine r_dec (fun _ => ?_) (fun _ => ?_)
                    · walk_at "run"
                      refine r_dec (fun _ => ?_) (fun _ => ?_)
                      · walk_at "run"
                        rename_i p hp
                        exact ⟨_, none, rfl, (fun z => nomatch z), (Z.x0 (Ext.refl.new hp)).addM (man := none) ⟨p, rfl, tupS⟩⟩
                      · walk_at "run"
                        refine r_getS Z.row lwish ?_
                        walk_at "run"
                        exact ⟨vm, some pm, rfl, fun _ => rfl, Z.addM Z.am⟩
                    · walk_at "run"
                      refine r_getS Z.row lwish ?_
                      walk_at "run"
                      exact ⟨vm, some pm, rfl, fun _ => rfl, Z.addM Z.am⟩
                  · walk_at "run"
                    refine r_getS Z.row lwish ?_
                    walk_at "run"
                    exact ⟨vm, some pm, rfl, fun _ => rfl, Z.addM Z.am⟩
              · clear Z
                rintro σ H15 ⟨vw, mw, rfl, hmw, Z⟩
                walk_at "go"
                obtain ⟨xs, g1, g2⟩ := Z.sm
                obtain ⟨vo, hvo, avo⟩ := g2.pick J.top
                have hxl : xs.length = i + 1 := by rw [g2.1, J.ls]
                refine r_ixL (.inl (.inl g1)) (at_lastV hxl hvo) ?_
                have Z1 := Z.add avo
                clear Z g1 g2 hvo avo hxl
                have itot := J.inx tot (List.mem_of_getElem? J.top)
                have iqc := J.inx qc (List.mem_of_getElem? hqc)
                have Xl : X30 i ≤ 2 ^ 400 := X30_le (by omega)
                have Ml : 1000 * i ≤ 2 ^ 400 := Nat.le_trans m62 (Nat.le_trans (by decide : 62000 ≤ 2 ^ 16) (Nat.pow_le_pow_right (by decide) (by decide)))
                have Ml2 : 1000 + 1000 * i ≤ 2 ^ 400 := Nat.le_trans (by omega : 1000 + 1000 * i ≤ 63000) (Nat.le_trans (by decide : 63000 ≤ 2 ^ 16) (Nat.pow_le_pow_right (by decide) (by decide)))
                have iz1 : In (X30 i) 1000 qz := iz.up (X30_d i)
                have ib : In (X30 i) (1000 + 1000 * i) (qz + qc) := iz1.add iqc
                have zc : Sz 4000 qc := szG iqc (X30_pos i) Xl Ml
                have zt : Sz 4000 tot := szG itot (X30_pos i) Xl Ml
                have zz : Sz 4000 qz := in30z iz z1000
                have zb : Sz 4000 (qz + qc) := szG ib (X30_pos i) Xl Ml2
                have ir : In (X30 i) (1000 + 1000 * i) (restQ (qz + qc) tot) := by
                  unfold restQ
                  split
                  · exact In.zero
                  · rename_i hn
                    exact ib.sub itot (Rat.le_of_lt (Rat.not_le.mp hn))
                have zr : Sz 4000 (restQ (qz + qc) tot) := szG ir (X30_pos i) Xl Ml2
                have ig1 : In (X30 i) 1000 F.g := okF.ig.up (X30_d i)
                have zD : Sz 4000 F.g := in30z okF.ig z1000
                have idue : In (X30 i) 1000 (dueQ mw F.g (qz + qc) tot) := by
                  unfold dueQ
                  split
                  · exact In.zero
                  · exact ig1.lmin1 ir
                have dle : dueQ mw F.g (qz + qc) tot ≤ restQ (qz + qc) tot := by
                  unfold dueQ
                  split
                  · exact ir.nn
                  · exact lmin_le2 _ _
                walk_at "go"
                refine r_mid (fun σ' H' => ∃ vd, σ' = [some (V.ref sc), some (V.ref b.a), some (V.ref d), some (V.int (delay : Int)), some (V.int (age : Int)), some (V.bl exact_), some (V.ref fa), some (V.str F.n), some (V.ref ta), some (V.int ga), some (V.bl pt), some (V.ref su), some (V.ref en), some (V.int (i : Int)), some (V.int made), some vc, some vw, some vo, some vd, u19, u20, u21] ∧ LS cF cW K H' b d L fa ta su en F vD vz vm qz pm (age : Int) S E tot [vd, vo, vc] [dueQ mw F.g (qz + qc) tot, tot, qc] [(vw, mw)]) ?_ ?_
                · walk_at "go"
                  rename_i p hp
                  have Z2 := Z1.x0 (Ext.refl.new (o := .tup []) hp)
                  refine eq_man (Z2.mn (vw, mw) (by simp)) tupS ?_
                  generalize upd H15 p (.tup []) = H16 at *
                  clear Z1 hp
                  cases mw with
                  | none =>
                    walk_at "run"
                    rename_i p2 hp2
                    exact ⟨_, rfl, (Z2.x0 (Ext.refl.new hp2)).add (v := .ref p2) (q := 0) ⟨p2, rfl, tupS⟩⟩
                  | some pp =>
                    walk_at "run"
                    refine r_getS Z2.row ldoor ?_
                    walk_at "run"
                    refine r_getS Z2.row lsize ?_
                    walk_at "run"
                    refine k_two Z2.az (Z2.at_ 1 rfl rfl) zz zc iz.nn iqc.nn trivial fun v1 H17 e17 a17 => ?_
                    have Z3 := (Z2.x0 e17).add a17
                    walk_at "run"
                    refine k_two (Z3.at_ 0 rfl rfl) (Z3.at_ 1 rfl rfl) zb zt ib.nn itot.nn trivial fun v2 H18 e18 a18 => ?_
                    have Z4 := (Z3.x0 e18).add a18
                    walk_at "run"
                    refine k_two Z4.aD (Z4.at_ 0 rfl rfl) zD zr okF.ig.nn ir.nn trivial fun v3 H19 e19 a19 => ?_
                    have Z5 := Z4.x0 e19
                    walk_at "run"
                    exact ⟨v3, rfl, Z5.bag, Z5.row, Z5.aD, Z5.az, Z5.am, Z5.snd, Z5.flw, Z5.sm, Z5.en, Ams.cons a19 (Ams.cons (Z5.at_ 2 rfl rfl) (Ams.cons (Z5.at_ 3 rfl rfl) Ams.nil)), Z5.mn⟩
                · clear Z1
                  rintro σ H16 ⟨vd, rfl, Z⟩
                  obtain ⟨dxt, vt, tt, hta, hvt, htt⟩ := id Z.snd
                  walk_at "go"
                  refine r_disp1T fun p hp => ?_
                  walk_at "go"
                  rename_i kt hkt
                  have e1 : Ext [] H16 (upd (upd H16 p (.dT [])) kt (.tup [V.str "came", V.str F.n, V.str F.n, V.str F.n])) := (Ext.refl.new hp).new hkt
                  have hkp : kt ≠ p := fun z => by rw [z, upd_same] at hkt; cases hkt
                  have ep : upd (upd H16 p (.dT [])) kt (.tup [V.str "came", V.str F.n, V.str F.n, V.str F.n]) p = some (.dT []) := by rw [upd_ne hkp.symm]; exact upd_same
                  have e2 : Ext [] H16 (upd (upd (upd H16 p (.dT [])) kt (.tup [V.str "came", V.str F.n, V.str F.n, V.str F.n])) p (.dT [(cameK F.n, vc)])) := e1.own hp
                  refine ⟨kt, cameK F.n, rfl, upd_same, ep, ?_⟩
                  have hpd : upd (upd (upd H16 p (.dT [])) kt (.tup [V.str "came", V.str F.n, V.str F.n, V.str F.n])) p (.dT [(cameK F.n, vc)]) p = some (.dT [(cameK F.n, vc)]) := upd_same
                  have Z1 := Z.x0 e2
                  generalize upd (upd (upd H16 p (.dT [])) kt (.tup [V.str "came", V.str F.n, V.str F.n, V.str F.n])) p (.dT [(cameK F.n, vc)]) = H17 at *
                  clear e1 e2 ep hkp hkt hp Z hta hvt htt
                  have iM : ∀ {q : Rat} {m : Nat}, In (X30 i) m q → m ≤ 63000 → In (X30 (i + 1)) 63000 q := fun h hm => (h.up Xu).most hm
                  have M63 : 2 * 63000 ≤ 2 ^ 400 := Nat.le_trans (by decide : 2 * 63000 ≤ 2 ^ 17) (Nat.pow_le_pow_right (by decide) (by decide))
                  walk_at "go"
                  refine ⟨ta, (i : Int), vw, p, .ref fa, (age : Int), F, tot, mw, vc, qc, qz, X30 (i + 1), 63000, rfl, Z1.snd, Z1.flw, hFz, Z1.mn (vw, mw) (by simp), hpd, Z1.at_ 2 rfl rfl, iM itot (by omega), iM iqc (by omega), iM iz1 (by omega), iM ig1 (by omega), X0, X4, M63, fun v H18 e18 a18 => ?_⟩
                  have Z2 := Z1.x0 e18
                  clear Z1 hpd
                  walk_at "go"
                  refine k_like (a18.eqd 2 (Z2.at_ 0 rfl rfl)) fun H19 e19 => ?_
                  have Z3 := Z2.x0 e19
                  clear Z2 a18 e18 e19
                  walk_at "run"
                  refine r_mid (fun σ' H' => ∃ vg g, σ' = [some (V.ref sc), some (V.ref b.a), some (V.ref d), some (V.int (delay : Int)), some (V.int (age : Int)), some (V.bl exact_), some (V.ref fa), some (V.str F.n), some (V.ref ta), some (V.int ga), some (V.bl pt), some (V.ref su), some (V.ref en), some (V.int (i : Int)), some (V.int made), some vc, some vw, some vo, some vd, some vg, u20, u21] ∧ 0 ≤ g ∧ g ≤ dueQ mw F.g (qz + qc) tot ∧ In (X30 (i + 1)) 1000 g ∧ (exact_ = true → g = dueQ mw F.g (qz + qc) tot) ∧ LS cF cW K H' b d L fa ta su en F vD vz vm qz pm (age : Int) S E tot [vg, vd, vo, vc] [g, dueQ mw F.g (qz + qc) tot, tot, qc] [(vw, mw)]) ?_ ?_
                  · walk_at "go"
                    cases pt with
                    | true =>
                      walk_at "run"
                      refine k_part Z3.bag (Z3.at_ 0 rfl rfl) idue.nn (szG idue (X30_pos i) Xl (Nat.le_trans (by decide) z1000)) fun u r H20 au pq b20 n20 => ?_
                      obtain ⟨r0, r1⟩ := pq.le idue.nn
                      have ir2 := pq.in_ idue
                      rw [X30_s] at ir2
                      walk_at "run"
                      exact ⟨u, r, rfl, r0, r1, ir2, fun z => (by have := hpt z; cases this), (Z3.bg b20 n20 nbs nbe).add au⟩
                    | false =>
                      walk_at "run"
                      exact ⟨vd, _, rfl, idue.nn, Rat.le_refl, idue.up Xu, fun _ => rfl, Z3.add (Z3.at_ 0 rfl rfl)⟩
                  · clear Z3
                    rintro σ H20 ⟨vg, g, rfl, g0, gd, ig, hge, Z⟩
                    walk_at "go"
                    refine r_mid (fun σ' H' => ∃ vg g, σ' = [some (V.ref sc), some (V.ref b.a), some (V.ref d), some (V.int (delay : Int)), some (V.int (age : Int)), some (V.bl exact_), some (V.ref fa), some (V.str F.n), some (V.ref ta), some (V.int ga), some (V.bl pt), some (V.ref su), some (V.ref en), some (V.int (i : Int)), some (V.int made), some vc, some vw, some vo, some vd, some vg, u20, u21] ∧ 0 ≤ g ∧ g ≤ dueQ mw F.g (qz + qc) tot ∧ In (X30 (i + 1)) 1000 g ∧ (exact_ = true → g = dueQ mw F.g (qz + qc) tot) ∧ LS cF cW K H' b d L fa ta su en F vD vz vm qz pm (age : Int) S E tot [vg, vd, vo, vc] [g, dueQ mw F.g (qz + qc) tot, tot, qc] [(vw, mw)]) ?_ ?_
                    · obtain ⟨ag_, rfl, hag⟩ := Z.at_ 0 rfl rfl
                      walk_at "go"
                      generalize (10 : Int) ^ Int.toNat 20 = B
                      refine r_dec (fun _ => ?_) (fun _ => ?_)
                      · walk_at "go"
                        exact ⟨vd, _, rfl, idue.nn, Rat.le_refl, idue.up Xu, fun _ => rfl, Z.bag, Z.row, Z.aD, Z.az, Z.am, Z.snd, Z.flw, Z.sm, Z.en, Ams.cons (Z.at_ 1 rfl rfl) (Ams.cons (Z.at_ 1 rfl rfl) (Ams.cons (Z.at_ 2 rfl rfl) (Ams.cons (Z.at_ 3 rfl rfl) Ams.nil))), Z.mn⟩
                      · walk_at "go"
                        exact ⟨.ref ag_, g, rfl, g0, gd, ig, hge, Z⟩
                    · clear Z g0 gd ig hge vg g
                      rintro σ H21 ⟨vg, g, rfl, g0, gd, ig, hge, Z⟩
                      obtain ⟨dxt, vt, tt, hta, hvt, htt⟩ := id Z.snd
                      walk_at "go"
                      refine ⟨ta, .ref fa, (age : Int), F.n, tot, vg, g, X30 (i + 1), 63000, rfl, Z.snd, Z.at_ 0 rfl rfl, iM itot (by omega), ig.most (by decide), X0, X4, M63, fun H22 e22 hs22 => ?_⟩
                      have Z1 := Z.note e22 hfta hs22
                      clear Z hta hvt htt e22 hs22
                      obtain ⟨xs, g1, g2⟩ := Z1.sm
                      walk_at "go"
                      refine ⟨.inl ⟨rfl, _, .inl (.inl g1)⟩, ?_⟩
                      walk_at "go"
                      have zg : Sz 4000 g := szG ig X0 X4 (Nat.le_trans (by decide) z1000)
                      refine k_two (Z1.at_ 2 rfl rfl) (Z1.at_ 0 rfl rfl) zt zg itot.nn g0 trivial fun vn H23 e23 a23 => ?_
                      have Z2 := (Z1.x0 e23).add a23
                      have g1' := e23 _ _ g1 fun z => nomatch z
                      have g2' := g2.x0 e23
                      have hxl : xs.length = i + 1 := by rw [g2.1, J.ls]
                      clear Z1 g1 g2
                      have Z3 := Z2.appS b9 hsu9 nse g1' g2' a23
                      walk_at "go"
                      generalize upd H23 su (.lst (xs ++ [vn])) = H24 at *
                      clear Z2 g1' g2' hxl a23
                      refine r_mid (fun σ' H' => ∃ e, σ' = [some (V.ref sc), some (V.ref b.a), some (V.ref d), some (V.int (delay : Int)), some (V.int (age : Int)), some (V.bl exact_), some (V.ref fa), some (V.str F.n), some (V.ref ta), some (V.int ga), some (V.bl pt), some (V.ref su), some (V.ref en), some (V.int (i : Int)), some (V.int made), some vc, some vw, some vo, some vd, some vg, u20, u21] ∧ S[i + 1 - delay]? = some e ∧ LS cF cW K H' b d L fa ta su en F vD vz vm qz pm (age : Int) (S ++ [tot + g]) (E ++ [e]) (tot + g) [vo] [tot] []) ?_ ?_
                      · obtain ⟨ys, h1, h2⟩ := Z3.en
                        obtain ⟨xs2, s1, s2⟩ := Z3.sm
                        have hyl : ys.length = i + 1 := by rw [h2.1, J.le]
                        have hy4 : ys.length ≤ 4000 := by omega
                        have endE : ∀ {H' : Hp} {v : V} {e : Rat}, Ext [] H24 H' → Am K H' v e → LS cF cW K (upd H' en (.lst (ys ++ [v]))) b d L fa ta su en F vD vz vm qz pm (age : Int) (S ++ [tot + g]) (E ++ [e]) (tot + g) [vo] [tot] [] := fun e' a => by
                          have Z4 := Z3.x0 e'
                          have Z5 : LS cF cW K _ b d L fa ta su en F vD vz vm qz pm (age : Int) (S ++ [tot + g]) E (tot + g) [vo] [tot] [] := ⟨Z4.bag, Z4.row, Z4.aD, Z4.az, Z4.am, Z4.snd, Z4.flw, Z4.sm, Z4.en, Ams.cons (Z4.at_ 3 rfl rfl) Ams.nil, fun _ z => nomatch z⟩
                          exact Z5.appE b9 hen9 nse (e' _ _ h1 fun z => nomatch z) (h2.x0 e') a
                        walk_at "go"
                        refine ⟨.inl ⟨rfl, _, .inl (.inl h1)⟩, ?_⟩
                        walk_at "go"
                        refine r_dec (fun hd => ?_) (fun hd => ?_)
                        · obtain ⟨e, he, _, _⟩ := J.get (i := i + 1 - delay) (by omega)
                          have he' : (S ++ [tot + g])[i + 1 - delay]? = some e := by rw [List.getElem?_append_left (by rw [J.ls]; omega)]; exact he
                          obtain ⟨ve, hve, ave⟩ := s2.pick he'
                          walk_at "go"
                          refine r_ixL (.inl (.inl s1)) (at_n (by omega : (i : Int) + 1 - (delay : Int) = ((i + 1 - delay : Nat) : Int)) hve) ?_
                          walk_at "go"
                          exact ⟨e, rfl, he, endE Ext.refl ave⟩
                        · walk_at "go"
                          rename_i p hp
                          have e' : Ext [] H24 (upd H24 p (.tup [.int 0, .int 1])) := Ext.refl.new hp
                          have h1' := e' _ _ h1 fun z => nomatch z
                          refine r_app h1' hy4 ?_
                          walk_at "go"
                          exact ⟨0, rfl, by rw [show i + 1 - delay = 0 by omega]; exact J.bot, endE e' ⟨p, rfl, tupS⟩⟩
                      · clear Z3
                        rintro σ H25 ⟨e, rfl, he, Z⟩
                        have J1 : JW qz delay age (S ++ [tot + g]) (E ++ [e]) (tot + g) (i + 1) := J.next del1 iz.nn (m := i + 1 - age - x - delay) (by omega) hqc g0 (Rat.le_trans gd dle) ig he
                        have itot1 := J1.inx (tot + g) (List.mem_of_getElem? J1.top)
                        have M1 : 1000 * (i + 1) ≤ 2 ^ 400 := Nat.le_trans (by omega : 1000 * (i + 1) ≤ 63000) (Nat.le_trans (by decide : 63000 ≤ 2 ^ 16) (Nat.pow_le_pow_right (by decide) (by decide)))
                        have zt1 : Sz 4000 (tot + g) := szG itot1 X0 X4 M1
                        obtain ⟨dxt, vt, tt, hta, hvt, htt⟩ := id Z.snd
                        obtain ⟨xs, s1, s2⟩ := Z.sm
                        obtain ⟨v1, hv1, a1⟩ := s2.pick J1.top
                        have hxl : xs.length = (i + 1) + 1 := by rw [s2.1, J1.ls]
                        walk_at "go"
                        refine r_ixL (.inl (.inl s1)) (at_lastV hxl hv1) ?_
                        walk_at "go"
                        refine k_like (hvt.eqd 2 a1) fun H26 e26 => ?_
                        have Z1 := Z.x0 e26
                        clear Z hta hvt htt s1 s2 a1 hv1 hxl
                        obtain ⟨dxt, vt, tt, hta, hvt, htt⟩ := id Z1.snd
                        walk_at "run"
                        refine ⟨ta, vw, rfl, fun u au => ?_⟩
                        walk_at "run"
                        rename_i p hp
                        have e27 : Ext [] H26 (upd H26 p (.tup [.int 0, .int 1])) := Ext.refl.new hp
                        refine k_like ((au.x0 e27).eqd 2 ⟨p, rfl, tupS⟩) fun H28 e28 => ?_
                        have Z2 := Z1.x0 (e27.trans e28)
                        clear Z1 hta hvt htt au e27 e28 hp
                        obtain ⟨xs, s1, s2⟩ := Z2.sm
                        obtain ⟨ys, h1, h2⟩ := Z2.en
                        obtain ⟨v1, hv1, a1⟩ := s2.pick J1.top
                        have hxl : xs.length = (i + 1) + 1 := by rw [s2.1, J1.ls]
                        have hyl : ys.length = (i + 1) + 1 := by rw [h2.1, J1.le]
                        obtain ⟨e1, he1, he2⟩ := J1.ended (i + 1) (Nat.le_refl _)
                        obtain ⟨v2, hv2, a2⟩ := h2.pick he1
                        have ie1 := J1.inx e1 (List.mem_of_getElem? he2)
                        have ze1 : Sz 4000 e1 := szG ie1 X0 X4 M1
                        obtain ⟨qb, hqb, iqb, _⟩ := J1.get (i := i + 1 - delay - age) (by omega)
                        have zqb : Sz 4000 qb := szG iqb X0 X4 M1
                        have bnd := J1.bound qb hqb
                        have mbe := J1.mono _ _ _ _ (by omega : i + 1 - delay - age ≤ i + 1 - delay) hqb he2
                        have lt0 : ∀ {r : Rat}, tot + g ≤ qz + r → decide (qz < restQ (tot + g) r) = false := fun h => by
                          refine decide_eq_false ?_
                          have := iz.nn
                          unfold restQ
                          split <;> grind
                        have irr : ∀ {r : Rat}, In (X30 (i + 1)) (1000 * (i + 1)) r → Sz 4000 (restQ (tot + g) r) := fun {r} h => by
                          have : In (X30 (i + 1)) (1000 * (i + 1)) (restQ (tot + g) r) := by
                            unfold restQ
                            split
                            · exact In.zero
                            · rename_i hn
                              exact itot1.sub h (Rat.le_of_lt (Rat.not_le.mp hn))
                          exact szG this X0 X4 M1
                        walk_at "run"
                        refine r_getS Z2.row lsize ?_
                        walk_at "run"
                        refine r_ixL (.inl (.inl s1)) (at_lastV hxl hv1) ?_
                        walk_at "run"
                        refine r_ixL (.inl (.inl h1)) (at_lastV hyl hv2) ?_
                        walk_at "run"
                        refine k_two a1 a2 zt1 ze1 itot1.nn ie1.nn trivial fun v3 H29 e29 a29 => ?_
                        have Z3 := Z2.x0 e29
                        clear Z2 s1 s2 h1 h2 a1 a2 hv1 hv2 hyl hxl he1
                        walk_at "run"
                        refine ⟨vz, v3, qz, _, rfl, Z3.az, a29, zz, irr ie1, ?_⟩
                        rw [lt0 (by grind)]
                        walk_at "run"
                        obtain ⟨xs, s1, s2⟩ := Z3.sm
                        obtain ⟨vb, hvb, ab⟩ := s2.pick hqb
                        refine r_ixL (.inl (.inl s1)) (at_n (n := i + 1 - delay - age) (by split <;> omega) hvb) ?_
                        walk_at "run"
                        refine r_getS Z3.row lsize ?_
                        walk_at "run"
                        obtain ⟨v1, hv1, a1⟩ := s2.pick J1.top
                        have hxl : xs.length = (i + 1) + 1 := by rw [s2.1, J1.ls]
                        refine r_ixL (.inl (.inl s1)) (at_lastV hxl hv1) ?_
                        walk_at "run"
                        refine k_two a1 ab zt1 zqb itot1.nn iqb.nn trivial fun v4 H30 e30 a30 => ?_
                        have Z4 := (Z3.x0 e30).add (ab.x0 e30)
                        clear Z3 s1 s2 hvb ab hv1 a1 hxl
                        walk_at "run"
                        refine ⟨vz, v4, qz, _, rfl, Z4.az, a30, zz, irr iqb, ?_⟩
                        rw [lt0 bnd]
                        walk_at "run"
                        cases exact_ with
                        | false =>
                          walk_at "run"
                          exact ⟨_, _, _, _, _, _, _, _, _, _, _, _, rfl, Z4.drop, J1⟩
                        | true =>
                          obtain rfl := hx rfl
                          have hg := hge rfl
                          rw [hmw rfl] at hg
                          have hg : g = lmin F.g (restQ (qz + qc) tot) := hg
                          have hqb' : S[i + 1 - delay - age]? = some qb := by rw [← hqb, List.getElem?_append_left (by rw [J.ls]; omega)]
                          have hqc' : S[i + 1 - delay - age]? = some qc := by rw [← hqc]; congr 1; omega
                          have hqq : qb = qc := by rw [hqc'] at hqb'; exact (Option.some.inj hqb').symm
                          obtain ⟨q0, hq0, _, _⟩ := J.get (i := i - delay - age) (by omega)
                          have b0 := J.bound q0 hq0
                          have m0 := J.mono _ _ _ _ (by omega : i - delay - age ≤ i + 1 - delay - age) hq0 hqc'
                          have key : tot + g = lmin (tot + F.g) (qz + qb) := by
                            rw [hg, hqq]
                            unfold lmin restQ
                            have := okF.ig.nn
                            grind
                          walk_at "run"
                          refine r_getS Z4.row lsize ?_
                          walk_at "run"
                          have iqb2 : In (X30 (i + 1)) (1000 + 1000 * (i + 1)) (qz + qb) := (iz1.up Xu).add iqb
                          have Ml3 : 1000 + 1000 * (i + 1) ≤ 2 ^ 400 := Nat.le_trans (by omega : 1000 + 1000 * (i + 1) ≤ 64000) (Nat.le_trans (by decide : 64000 ≤ 2 ^ 16) (Nat.pow_le_pow_right (by decide) (by decide)))
                          refine k_two Z4.az (Z4.at_ 0 rfl rfl) zz zqb iz.nn iqb.nn trivial fun v5 H31 e31 a31 => ?_
                          have Z5 := (Z4.x0 e31).add a31
                          clear Z4 a31 a30
                          obtain ⟨dxt, vt, tt, hta, hvt, htt⟩ := id Z5.snd
                          walk_at "run"
                          refine r_getS Z5.row ldoor ?_
                          walk_at "run"
                          refine k_two (Z5.at_ 2 rfl rfl) Z5.aD zt zD itot.nn okF.ig.nn trivial fun v6 H32 e32 a32 => ?_
                          have Z6 := (Z5.x0 e32).add a32
                          have iod : In (X30 i) (1000 * i + 1000) (tot + F.g) := itot.add ig1
                          walk_at "run"
                          refine k_two (Z6.at_ 0 rfl rfl) (Z6.at_ 1 rfl rfl) (szG iod (X30_pos i) Xl (by omega)) (szG iqb2 X0 X4 Ml3) iod.nn iqb2.nn trivial fun v7 H33 e33 a33 => ?_
                          have Z7 := Z6.x0 e33
                          rw [← key] at a33
                          walk_at "run"
                          refine k_like (((hvt.x0 e32).x0 e33).eqd 2 a33) fun H34 e34 => ?_
                          have Z8 := Z7.x0 e34
                          walk_at "run"
                          exact ⟨_, _, _, _, _, _, _, _, _, _, _, _, rfl, Z8.drop, J1⟩
        · clear Z1 hs9 hL9 aD9 az9 am9 hf9
          rintro σ H12 ⟨S, E, tot, u13, u14, u15, u16, u17, u18, u19, u20, u21, rfl, Z, J⟩
          obtain ⟨dxt, vt, tt, hta, hvt, htt⟩ := id Z.snd
          obtain ⟨dy, gs, hfa⟩ := Z.flw.ins
          walk_at "go"
          exact ⟨⟨fa, fa, dy, dy, gs, gs, rfl, rfl, hfa, hfa, ⟨rfl, F, Z.flw, okF.ok⟩⟩, fun H' _ => k H'⟩
end
end Yk

set_option maxHeartbeats 0
namespace YkHead
open PySem PySem.Spec PyProof.Rows L2 Yk
theorem facts {P : Program} {w : World} {K : PySem.W.Frag} {h : Heap} {mg : Str → Option Value} {f : Addr} (X : K.In h) (G : h.Ns mainGlobals mg) (hfa : mg ("law" : Str) = some (.ref f)) (c0 : Hk.SaysS fa fn ex sf file0 K) (hPf : P.main.file = file0) (hPs : (P.main.scope.names.lookup ("super" : Str)).isSome = false) :
    ∃ fd : FuncData, (∀ (s : Shared) (v : Value), BindsTo s fd ⟨[v], []⟩ [("_law_script", v)]) ∧ ∀ base : Heap, K.In base → base.Ns mainGlobals mg → FnOk P w K mg base CX0 9 f fd ["_law_script"] (spLaw80 K) := by
  have c := c0.s
  have m : ex K = true := c.more
  unfold ex at m
  try simp only [Bool.and_eq_true] at m
  have T0 : Bt mg := ⟨(He.free_ok X G (c.fact 83 (f := .free "int") rfl)), (He.free_ok X G (c.fact 85 (f := .free "len") rfl)), (He.free_ok X G (c.fact 86 (f := .free "list") rfl)), (He.free_ok X G (c.fact 94 (f := .free "tuple") rfl)), (He.free_ok X G (c.fact 91 (f := .free "str") rfl)), (He.free_ok X G (c.fact 81 (f := .free "bool") rfl)), (He.free_ok X G (c.fact 87 (f := .free "max") rfl)), (He.free_ok X G (c.fact 88 (f := .free "min") rfl)), (He.free_ok X G (c.fact 79 (f := .free "all") rfl)), (He.free_ok X G (c.fact 80 (f := .free "any") rfl)), (He.free_ok X G (c.fact 92 (f := .free "sum") rfl)), (He.free_ok X G (c.fact 84 (f := .free "isinstance") rfl)), (He.free_ok X G (c.fact 95 (f := .free "zip") rfl)), (He.free_ok X G (c.fact 89 (f := .free "range") rfl)), (He.free_ok X G (c.fact 82 (f := .free "divmod") rfl))⟩
  have Tset := (He.free_ok X G (c.fact 90 (f := .free "set") rfl))
  have Tsuper := (He.free_ok X G (c.fact 93 (f := .free "super") rfl))
  have i_SMALL_BOTTOM := He.int_ok X G (c.fact 96 (f := .int "SMALL_BOTTOM" 12) rfl)
  have i_LONGEST_ROUTE := He.int_ok X G (c.fact 97 (f := .int "LONGEST_ROUTE" 5) rfl)
  have i_LONGEST_WAY := He.int_ok X G (c.fact 98 (f := .int "LONGEST_WAY" 20) rfl)
  have i_MOST_WEIGHT := He.int_ok X G (c.fact 99 (f := .int "MOST_WEIGHT" 12) rfl)
  have i_MOST_TRIES := He.int_ok X G (c.fact 100 (f := .int "MOST_TRIES" 12) rfl)
  have T1 : Bg mg := ⟨T0, PySem.W.mg_of X G (He.eqO_ok m.1.1.1.1.1.1.1.1.2)⟩
  have tup_ZERO : ∃ z, mg "ZERO" = some (.ref z) ∧ ∀ H, SqT K H z [.int 0, .int 1] := ⟨He.ga K "ZERO", PySem.W.mg_of X G (He.eqO_ok m.1.1.1.1.1.1.1.2), fun H => He.tupB_ok m.1.1.1.1.1.1.2 H⟩
  have tup_TOP : ∃ z, mg "TOP" = some (.ref z) ∧ ∀ H, SqT K H z [.int 1000, .int 1] := ⟨He.ga K "TOP", PySem.W.mg_of X G (He.eqO_ok m.1.1.1.1.1.2), fun H => He.tupB_ok m.1.1.1.1.2 H⟩
  have tup_LARGEST_BUFFER : ∃ z, mg "LARGEST_BUFFER" = some (.ref z) ∧ ∀ H, SqT K H z [.int 1000000, .int 1] := ⟨He.ga K "LARGEST_BUFFER", PySem.W.mg_of X G (He.eqO_ok m.1.1.1.2), fun H => He.tupB_ok m.1.1.2 H⟩
  have tup_KINDS : ∃ z, mg "KINDS" = some (.ref z) ∧ ∀ H, SqT K H z [.str "level", .str "eager", .str "window", .str "probe"] := ⟨He.ga K "KINDS", PySem.W.mg_of X G (He.eqO_ok m.1.2), fun H => He.tupB_ok m.2 H⟩
  have TFlow : Ct K mg "Flow" (He.ga K "Flow") ["name", "route", "buffers", "kind", "size", "weight", "least", "cap", "door", "way", "manner", "strange", "last"] := ⟨(He.glo_ok X G (c.fact 0 (f := .glo "Flow") rfl)), He.cls_ok (c.fact 1 (f := .cls "Flow") rfl), fun f hf => by
    simp only [List.mem_cons, List.not_mem_nil, or_false] at hf
    rcases hf with rfl | rfl | rfl | rfl | rfl | rfl | rfl | rfl | rfl | rfl | rfl | rfl | rfl
    · exact He.noat_ok (c.fact 2 (f := .noat "Flow" "name") rfl)
    · exact He.noat_ok (c.fact 3 (f := .noat "Flow" "route") rfl)
    · exact He.noat_ok (c.fact 4 (f := .noat "Flow" "buffers") rfl)
    · exact He.noat_ok (c.fact 5 (f := .noat "Flow" "kind") rfl)
    · exact He.noat_ok (c.fact 6 (f := .noat "Flow" "size") rfl)
    · exact He.noat_ok (c.fact 7 (f := .noat "Flow" "weight") rfl)
    · exact He.noat_ok (c.fact 8 (f := .noat "Flow" "least") rfl)
    · exact He.noat_ok (c.fact 9 (f := .noat "Flow" "cap") rfl)
    · exact He.noat_ok (c.fact 10 (f := .noat "Flow" "door") rfl)
    · exact He.noat_ok (c.fact 11 (f := .noat "Flow" "way") rfl)
    · exact He.noat_ok (c.fact 12 (f := .noat "Flow" "manner") rfl)
    · exact He.noat_ok (c.fact 13 (f := .noat "Flow" "strange") rfl)
    · exact He.noat_ok (c.fact 14 (f := .noat "Flow" "last") rfl)⟩
  have TWindowSender : Ct K mg "WindowSender" (He.ga K "WindowSender") ["flow", "age", "total", "_came"] := ⟨(He.glo_ok X G (c.fact 17 (f := .glo "WindowSender") rfl)), He.cls_ok (c.fact 18 (f := .cls "WindowSender") rfl), fun f hf => by
    simp only [List.mem_cons, List.not_mem_nil, or_false] at hf
    rcases hf with rfl | rfl | rfl | rfl
    · exact He.noat_ok (c.fact 19 (f := .noat "WindowSender" "flow") rfl)
    · exact He.noat_ok (c.fact 20 (f := .noat "WindowSender" "age") rfl)
    · exact He.noat_ok (c.fact 21 (f := .noat "WindowSender" "total") rfl)
    · exact He.noat_ok (c.fact 22 (f := .noat "WindowSender" "_came") rfl)⟩
  obtain ⟨Ty_Flow, Ki_Flow⟩ := Hk.tyB_ok m.1.1.1.1.1.1.1.1.1 (He.cls_ok (c.fact 1 (f := .cls "Flow") rfl))
  obtain ⟨d_added, D_added⟩ := c.def_ 7 (d := dD "_added" 18) rfl
  obtain ⟨d_product, D_product⟩ := c.def_ 9 (d := dD "_product" 20) rfl
  obtain ⟨d_times, D_times⟩ := c.def_ 8 (d := dD "times" 19) rfl
  obtain ⟨d_compare, D_compare⟩ := c.def_ 10 (d := dD "compare" 21) rfl
  obtain ⟨d_minus, D_minus⟩ := c.def_ 6 (d := dD "minus" 17) rfl
  obtain ⟨d_plus, D_plus⟩ := c.def_ 5 (d := dD "plus" 16) rfl
  obtain ⟨d_smallest, D_smallest⟩ := c.def_ 11 (d := dD "smallest" 22) rfl
  obtain ⟨d_largest, D_largest⟩ := c.def_ 12 (d := dD "largest" 23) rfl
  obtain ⟨d_is_number, D_is_number⟩ := c.def_ 0 (d := dD "is_number" 3) rfl
  obtain ⟨d_is_amount, D_is_amount⟩ := c.def_ 3 (d := dD "is_amount" 14) rfl
  obtain ⟨d_share, D_share⟩ := c.def_ 14 (d := dD "share" 26) rfl
  obtain ⟨d_law_bag, D_law_bag⟩ := c.def_ 24 (d := dD "_law_bag" 51) rfl
  obtain ⟨d_law_draw, D_law_draw⟩ := c.def_ 25 (d := dD "_law_draw" 52) rfl
  obtain ⟨d_law_of, D_law_of⟩ := c.def_ 26 (d := dD "_law_of" 53) rfl
  obtain ⟨d_law_amount, D_law_amount⟩ := c.def_ 27 (d := dD "_law_amount" 54) rfl
  obtain ⟨d_law_sum, D_law_sum⟩ := c.def_ 28 (d := dD "_law_sum" 55) rfl
  obtain ⟨d_law_rest, D_law_rest⟩ := c.def_ 29 (d := dD "_law_rest" 56) rfl
  obtain ⟨d_law_less, D_law_less⟩ := c.def_ 31 (d := dD "_law_less" 58) rfl
  obtain ⟨d_law_min, D_law_min⟩ := c.def_ 32 (d := dD "_law_min" 59) rfl
  obtain ⟨d_law_max, D_law_max⟩ := c.def_ 33 (d := dD "_law_max" 60) rfl
  obtain ⟨d_law_scaled, D_law_scaled⟩ := c.def_ 30 (d := dD "_law_scaled" 57) rfl
  obtain ⟨d_law_same, D_law_same⟩ := c.def_ 34 (d := dD "_law_same" 61) rfl
  obtain ⟨d_law_some, D_law_some⟩ := c.def_ 35 (d := dD "_law_some" 62) rfl
  obtain ⟨d_law_part, D_law_part⟩ := c.def_ 36 (d := dD "_law_part" 63) rfl
  obtain ⟨d_is_name, D_is_name⟩ := c.def_ 2 (d := dD "is_name" 5) rfl
  obtain ⟨d_is_number_within, D_is_number_within⟩ := c.def_ 1 (d := dD "is_number_within" 4) rfl
  obtain ⟨d_is_small, D_is_small⟩ := c.def_ 4 (d := dD "is_small" 15) rfl
  obtain ⟨d_is_size, D_is_size⟩ := c.def_ 19 (d := dD "_is_size" 45) rfl
  obtain ⟨d_are_buffers, D_are_buffers⟩ := c.def_ 18 (d := dD "_are_buffers" 44) rfl
  obtain ⟨d_fits_kind, D_fits_kind⟩ := c.def_ 21 (d := dD "_fits_kind" 47) rfl
  obtain ⟨d_check_kind, D_check_kind⟩ := c.def_ 20 (d := dD "_check_kind" 46) rfl
  obtain ⟨d_check_promise, D_check_promise⟩ := c.def_ 22 (d := dD "_check_promise" 48) rfl
  obtain ⟨d_is_manner, D_is_manner⟩ := c.def_ 13 (d := dD "is_manner" 25) rfl
  obtain ⟨d_is_manner_within, D_is_manner_within⟩ := c.def_ 23 (d := dD "_is_manner_within" 49) rfl
  obtain ⟨d_is_route, D_is_route⟩ := c.def_ 17 (d := dD "_is_route" 43) rfl
  obtain ⟨d_check_place, D_check_place⟩ := c.def_ 16 (d := dD "_check_place" 42) rfl
  obtain ⟨d_Flow___init__, D_Flow___init__⟩ := c.def_ 44 (d := ⟨fun K => He.ma K (He.ga K "Flow") "__init__", "__init__", "Flow.__init__", defArgs (inClass (top 41) 0), defBody (inClass (top 41) 0), defScope (inClass (top 41) 0), [], [("kind", .str "level"), ("size", .non), ("weight", .int 1), ("least", .glo "ZERO"), ("cap", .glo "TOP"), ("door", .non), ("way", .int 1), ("manner", .non), ("strange", .bl false)]⟩) rfl
  obtain ⟨d_law_name, D_law_name⟩ := c.def_ 37 (d := dD "_law_name" 64) rfl
  obtain ⟨d_law_above, D_law_above⟩ := c.def_ 38 (d := dD "_law_above" 65) rfl
  obtain ⟨d_law_wish, D_law_wish⟩ := c.def_ 39 (d := dD "_law_wish" 66) rfl
  obtain ⟨d_law_flow, D_law_flow⟩ := c.def_ 40 (d := dD "_law_flow" 67) rfl
  obtain ⟨d_law_made_flow, D_law_made_flow⟩ := c.def_ 41 (d := dD "_law_made_flow" 68) rfl
  obtain ⟨d_law_window, D_law_window⟩ := c.def_ 42 (d := dD "_law_window" 69) rfl
  obtain ⟨d_Sender___init__, D_Sender___init__⟩ := c.def_ 45 (d := ⟨fun K => He.ma K (He.ga K "Sender") "__init__", "__init__", "Sender.__init__", defArgs (inClass (top 28) 0), defBody (inClass (top 28) 0), defScope (inClass (top 28) 0), [], []⟩) rfl
  obtain ⟨d_Sender_note_sent, D_Sender_note_sent⟩ := c.def_ 46 (d := ⟨fun K => He.ma K (He.ga K "WindowSender") "note_sent", "note_sent", "Sender.note_sent", defArgs (inClass (top 28) 2), defBody (inClass (top 28) 2), defScope (inClass (top 28) 2), [], []⟩) rfl
  obtain ⟨d_Sender_asks, D_Sender_asks⟩ := c.def_ 47 (d := ⟨fun K => He.ma K (He.ga K "WindowSender") "asks", "asks", "Sender.asks", defArgs (inClass (top 28) 3), defBody (inClass (top 28) 3), defScope (inClass (top 28) 3), [], []⟩) rfl
  obtain ⟨D_WindowSender___init__, U_WindowSender___init__⟩ := c0.sup P hPf hPs 0 (⟨fun K => He.ma K (He.ga K "WindowSender") "__init__", fun K => He.ga K "WindowSender", fun K => He.ma K (He.ga K "Sender") "__init__", "__init__", "__init__", "WindowSender.__init__", defArgs (inClass (top 31) 0), defBody (inClass (top 31) 0), defScope (inClass (top 31) 0)⟩) rfl
  obtain ⟨d_WindowSender_offer, D_WindowSender_offer⟩ := c.def_ 48 (d := ⟨fun K => He.ma K (He.ga K "WindowSender") "offer", "offer", "WindowSender.offer", defArgs (inClass (top 31) 1), defBody (inClass (top 31) 1), defScope (inClass (top 31) 1), [], []⟩) rfl
  obtain ⟨d_sender_of, D_sender_of⟩ := c.def_ 15 (d := dD "sender_of" 33) rfl
  obtain ⟨d_Flow___eq__, D_Flow___eq__⟩ := c.def_ 49 (d := ⟨fun K => He.ma K (He.ga K "Flow") "__eq__", "__eq__", "Flow.__eq__", defArgs (inClass (top 41) 7), defBody (inClass (top 41) 7), defScope (inClass (top 41) 7), [], []⟩) rfl
  obtain ⟨d_law, D_law⟩ := c.def_ 43 (d := dD "law" 70) rfl
  have e := hfa.symm.trans (He.glo_ok X G (c.fact 77 (f := .glo "law") rfl))
  cases e
  refine ⟨d_law, fun s v => (FunD.bindsA (ps := ["_law_script"]) D_law fun _ _ _ _ _ _ us hl => match us, hl with | [_], _ => rfl) s [v] rfl, fun base _ _ => ?_⟩
  have RLevelSender : Cr P w K mg base 1 "LevelSender" (He.ga K "LevelSender") spNo := cr_of (He.glo_ok X G (c.fact 27 (f := .glo "LevelSender") rfl)) (He.mkr_ok (c.fact 28 (f := .mkr "LevelSender") rfl)) (fun _ _ _ _ _ _ _ _ _ _ _ h => False.elim h)
  have REagerSender : Cr P w K mg base 1 "EagerSender" (He.ga K "EagerSender") spNo := cr_of (He.glo_ok X G (c.fact 29 (f := .glo "EagerSender") rfl)) (He.mkr_ok (c.fact 30 (f := .mkr "EagerSender") rfl)) (fun _ _ _ _ _ _ _ _ _ _ _ h => False.elim h)
  have RProbeSender : Cr P w K mg base 1 "ProbeSender" (He.ga K "ProbeSender") spNo := cr_of (He.glo_ok X G (c.fact 31 (f := .glo "ProbeSender") rfl)) (He.mkr_ok (c.fact 32 (f := .mkr "ProbeSender") rfl)) (fun _ _ _ _ _ _ _ _ _ _ _ h => False.elim h)
  have F_added := f_added (P := P) (w := w) (base := base) D_added (He.glo_ok X G (c.fact 41 (f := .glo "_added") rfl)) T1
  have F_product := f_product (P := P) (w := w) (base := base) D_product (He.glo_ok X G (c.fact 43 (f := .glo "_product") rfl)) T1
  have Ftimes := f_times (P := P) (w := w) (base := base) D_times (He.glo_ok X G (c.fact 42 (f := .glo "times") rfl)) F_product
  have Fcompare := f_compare (P := P) (w := w) (base := base) D_compare (He.glo_ok X G (c.fact 44 (f := .glo "compare") rfl)) 
  have Fminus := f_minus (P := P) (w := w) (base := base) D_minus (He.glo_ok X G (c.fact 40 (f := .glo "minus") rfl)) Fcompare F_added
  have Fplus := f_plus (P := P) (w := w) (base := base) D_plus (He.glo_ok X G (c.fact 39 (f := .glo "plus") rfl)) tup_ZERO F_added
  have Fsmallest := f_smallest (P := P) (w := w) (base := base) D_smallest (He.glo_ok X G (c.fact 45 (f := .glo "smallest") rfl)) Fcompare
  have Flargest := f_largest (P := P) (w := w) (base := base) D_largest (He.glo_ok X G (c.fact 46 (f := .glo "largest") rfl)) Fcompare
  have Fis_number := f_is_number (P := P) (w := w) (base := base) D_is_number (He.glo_ok X G (c.fact 34 (f := .glo "is_number") rfl)) T0
  have Fis_amount := f_is_amount (P := P) (w := w) (base := base) D_is_amount (He.glo_ok X G (c.fact 37 (f := .glo "is_amount") rfl)) T1 Fis_number
  have Oshare := f_share (P := P) (w := w) (base := base) D_share (He.glo_ok X G (c.fact 48 (f := .glo "share") rfl)) tup_ZERO Ftimes Fsmallest Flargest
  have Fshare := fn_of_ok D_share (He.glo_ok X G (c.fact 48 (f := .glo "share") rfl)) Oshare (fun _ _ _ _ _ _ us hl => match us, hl with | [_, _, _], _ => rfl)
  have F_law_bag := f_law_bag (P := P) (w := w) (base := base) D_law_bag (He.glo_ok X G (c.fact 58 (f := .glo "_law_bag") rfl)) T0
  have F_law_draw := f_law_draw (P := P) (w := w) (base := base) D_law_draw (He.glo_ok X G (c.fact 59 (f := .glo "_law_draw") rfl)) T0
  have F_law_of := f_law_of (P := P) (w := w) (base := base) D_law_of (He.glo_ok X G (c.fact 60 (f := .glo "_law_of") rfl)) T0 F_law_draw
  have F_law_amount := f_law_amount (P := P) (w := w) (base := base) D_law_amount (He.glo_ok X G (c.fact 61 (f := .glo "_law_amount") rfl)) T0
  have F_law_sum := f_law_sum (P := P) (w := w) (base := base) D_law_sum (He.glo_ok X G (c.fact 62 (f := .glo "_law_sum") rfl)) F_law_amount
  have F_law_rest := f_law_rest (P := P) (w := w) (base := base) D_law_rest (He.glo_ok X G (c.fact 63 (f := .glo "_law_rest") rfl)) T0 F_law_amount
  have F_law_less := f_law_less (P := P) (w := w) (base := base) D_law_less (He.glo_ok X G (c.fact 65 (f := .glo "_law_less") rfl)) 
  have F_law_min := f_law_min (P := P) (w := w) (base := base) D_law_min (He.glo_ok X G (c.fact 66 (f := .glo "_law_min") rfl)) F_law_less
  have F_law_max := f_law_max (P := P) (w := w) (base := base) D_law_max (He.glo_ok X G (c.fact 67 (f := .glo "_law_max") rfl)) F_law_less
  have F_law_scaled := f_law_scaled (P := P) (w := w) (base := base) D_law_scaled (He.glo_ok X G (c.fact 64 (f := .glo "_law_scaled") rfl)) F_law_amount
  have F_law_same0 : Fn P w K mg base 0 "_law_same" (spLike K 0) := fn_none D_law_same (He.glo_ok X G (c.fact 68 (f := .glo "_law_same") rfl))
  have F_law_same1 := f_law_same D_law_same (He.glo_ok X G (c.fact 68 (f := .glo "_law_same") rfl)) T0 0 F_law_same0
  have F_law_same2 := f_law_same D_law_same (He.glo_ok X G (c.fact 68 (f := .glo "_law_same") rfl)) T0 1 F_law_same1
  have F_law_same3 := f_law_same D_law_same (He.glo_ok X G (c.fact 68 (f := .glo "_law_same") rfl)) T0 2 F_law_same2
  have F_law_same4 := f_law_same D_law_same (He.glo_ok X G (c.fact 68 (f := .glo "_law_same") rfl)) T0 3 F_law_same3
  have F_law_same := F_law_same4
  have F_law_some := f_law_some (P := P) (w := w) (base := base) D_law_some (He.glo_ok X G (c.fact 69 (f := .glo "_law_some") rfl)) T0 F_law_draw F_law_of F_law_amount
  have F_law_part := f_law_part (P := P) (w := w) (base := base) D_law_part (He.glo_ok X G (c.fact 70 (f := .glo "_law_part") rfl)) T0 F_law_of F_law_scaled
  have Gplus := g_plus (P := P) (w := w) (base := base) D_plus (He.glo_ok X G (c.fact 39 (f := .glo "plus") rfl)) tup_ZERO F_added
  have Fis_name := f_is_name (P := P) (w := w) (base := base) D_is_name (He.glo_ok X G (c.fact 36 (f := .glo "is_name") rfl)) T0
  have Fis_number_within := f_is_number_within (P := P) (w := w) (base := base) D_is_number_within (He.glo_ok X G (c.fact 35 (f := .glo "is_number_within") rfl)) Fis_number
  have Fis_small := f_is_small (P := P) (w := w) (base := base) D_is_small (He.glo_ok X G (c.fact 38 (f := .glo "is_small") rfl)) tup_TOP i_SMALL_BOTTOM Fis_amount Fcompare
  have F_is_size := f_is_size (P := P) (w := w) (base := base) D_is_size (He.glo_ok X G (c.fact 53 (f := .glo "_is_size") rfl)) tup_LARGEST_BUFFER Fis_amount Fcompare
  have F_are_buffers := f_are_buffers (P := P) (w := w) (base := base) D_are_buffers (He.glo_ok X G (c.fact 52 (f := .glo "_are_buffers") rfl)) T0 F_is_size
  have F_fits_kind := f_fits_kind (P := P) (w := w) (base := base) D_fits_kind (He.glo_ok X G (c.fact 55 (f := .glo "_fits_kind") rfl)) i_MOST_TRIES F_is_size Fis_number_within
  have F_check_kind := f_check_kind (P := P) (w := w) (base := base) D_check_kind (He.glo_ok X G (c.fact 54 (f := .glo "_check_kind") rfl)) tup_KINDS F_fits_kind
  have F_check_promise := f_check_promise (P := P) (w := w) (base := base) D_check_promise (He.glo_ok X G (c.fact 56 (f := .glo "_check_promise") rfl)) i_MOST_WEIGHT Fis_number_within Fis_small Fcompare
  have Fis_manner := f_is_manner (P := P) (w := w) (base := base) D_is_manner (He.glo_ok X G (c.fact 47 (f := .glo "is_manner") rfl)) T0 Fis_amount Fcompare
  have F_is_manner_within := f_is_manner_within (P := P) (w := w) (base := base) D_is_manner_within (He.glo_ok X G (c.fact 57 (f := .glo "_is_manner_within") rfl)) Fis_manner Fcompare
  have F_is_route := f_is_route (P := P) (w := w) (base := base) D_is_route (He.glo_ok X G (c.fact 51 (f := .glo "_is_route") rfl)) T0 Tset i_LONGEST_ROUTE Fis_name
  have F_check_place := f_check_place (P := P) (w := w) (base := base) D_check_place (He.glo_ok X G (c.fact 50 (f := .glo "_check_place") rfl)) T0 Fis_name F_is_route F_are_buffers
  have OFlow___init__ := f_Flow___init__ (P := P) (w := w) (base := base) D_Flow___init__ T0 i_LONGEST_WAY TFlow F_check_place F_check_kind F_check_promise Fis_small Fcompare Fis_number_within F_is_manner_within
  have KFlow_3_kind_size_weight_least_cap_door_way_manner_strange : CrK P w K mg base 6 "Flow" (He.ga K "Flow") 3 ["kind", "size", "weight", "least", "cap", "door", "way", "manner", "strange"] (fun vs zs => vs ++ zs) (spFlowInit (He.ga K "Flow") K) := ⟨_, d_Flow___init__, _, _, (He.glo_ok X G (c.fact 0 (f := .glo "Flow") rfl)), He.mkr_ok (c.fact 15 (f := .mkr "Flow") rfl), OFlow___init__, Hk.kbn_of D_Flow___init__ (fun _ _ _ _ _ _ us ws h1 h2 => match us, ws, h1, h2 with | [_, _, _, _], [_, _, _, _, _, _, _, _, _], _, _ => rfl)⟩
  have G_law_of := g_law_of (P := P) (w := w) (base := base) D_law_of (He.glo_ok X G (c.fact 60 (f := .glo "_law_of") rfl)) T0 F_law_draw
  have F_law_name := f_law_name (P := P) (w := w) (base := base) D_law_name (He.glo_ok X G (c.fact 71 (f := .glo "_law_name") rfl)) T0 F_law_draw F_law_of G_law_of
  have G_law_some := g_law_some (P := P) (w := w) (base := base) D_law_some (He.glo_ok X G (c.fact 69 (f := .glo "_law_some") rfl)) T0 F_law_draw F_law_of F_law_amount
  have F_law_above := f_law_above (P := P) (w := w) (base := base) D_law_above (He.glo_ok X G (c.fact 72 (f := .glo "_law_above") rfl)) T0 F_law_draw G_law_some F_law_sum F_law_less
  have F_law_wish := f_law_wish (P := P) (w := w) (base := base) D_law_wish (He.glo_ok X G (c.fact 73 (f := .glo "_law_wish") rfl)) T0 F_law_draw G_law_some F_law_part F_law_sum F_law_rest F_law_min F_law_max
  have F_law_flow := f_law_flow (P := P) (w := w) (base := base) D_law_flow (He.glo_ok X G (c.fact 74 (f := .glo "_law_flow") rfl)) T0 F_law_draw F_law_of G_law_some F_law_part F_law_sum F_law_rest F_law_min F_law_less F_law_above F_law_wish
  have F_law_made_flow := f_law_made_flow (P := P) (w := w) (base := base) D_law_made_flow (He.glo_ok X G (c.fact 75 (f := .glo "_law_made_flow") rfl)) KFlow_3_kind_size_weight_least_cap_door_way_manner_strange
  have F_law_window := f_law_window (P := P) (w := w) (base := base) D_law_window (He.glo_ok X G (c.fact 76 (f := .glo "_law_window") rfl)) T0 F_law_draw G_law_some F_law_name F_law_above F_law_flow
  have OSender___init__ := f_Sender___init__ (P := P) (w := w) (base := base) D_Sender___init__ tup_ZERO TWindowSender
  have OSender_note_sent := f_Sender_note_sent (P := P) (w := w) (base := base) D_Sender_note_sent TWindowSender Gplus
  have MWindowSender_note_sent := mt_of (He.cls_ok (c.fact 18 (f := .cls "WindowSender") rfl)) (He.meth_ok (c.fact 24 (f := .meth "WindowSender" "note_sent") rfl)) (raw_meth D_Sender_note_sent OSender_note_sent (fun _ _ _ _ _ _ us hl => match us, hl with | [_, _], _ => rfl))
  have OSender_asks := f_Sender_asks (P := P) (w := w) (base := base) D_Sender_asks tup_ZERO
  have MWindowSender_asks := mt_of (He.cls_ok (c.fact 18 (f := .cls "WindowSender") rfl)) (He.meth_ok (c.fact 25 (f := .meth "WindowSender" "asks") rfl)) (raw_meth D_Sender_asks OSender_asks (fun _ _ _ _ _ _ us hl => match us, hl with | [_, _], _ => rfl))
  have RWindowSender := cr_of (He.glo_ok X G (c.fact 17 (f := .glo "WindowSender") rfl)) (He.mkr_ok (c.fact 23 (f := .mkr "WindowSender") rfl)) (f_WindowSender___init__ (P := P) (w := w) (base := base) D_WindowSender___init__ U_WindowSender___init__ (raw_meth D_Sender___init__ OSender___init__ (fun _ _ _ _ _ _ us hl => match us, hl with | [_, _, _], _ => rfl)) Tsuper TWindowSender TFlow)
  have OWindowSender_offer := f_WindowSender_offer (P := P) (w := w) (base := base) D_WindowSender_offer tup_ZERO TWindowSender TFlow Gplus Fcompare Fminus Fsmallest
  have MWindowSender_offer := mt_of (He.cls_ok (c.fact 18 (f := .cls "WindowSender") rfl)) (He.meth_ok (c.fact 26 (f := .meth "WindowSender" "offer") rfl)) (raw_meth D_WindowSender_offer OWindowSender_offer (fun _ _ _ _ _ _ us hl => match us, hl with | [_, _, _, _], _ => rfl))
  have Fsender_of := f_sender_of (P := P) (w := w) (base := base) D_sender_of (He.glo_ok X G (c.fact 49 (f := .glo "sender_of") rfl)) TFlow RLevelSender REagerSender RProbeSender RWindowSender
  have OFlow___eq__ := f_Flow___eq__ (P := P) (w := w) (base := base) D_Flow___eq__ T0 Ty_Flow Ki_Flow TFlow
  have EFlow : Oe P w K mg base 1 (He.ga K "Flow") (FlowR (He.ga K "Flow") K) := ⟨_, _, _, OFlow___eq__, He.meth_ok (c.fact 16 (f := .meth "Flow" "__eq__") rfl), FunD.bindsN D_Flow___eq__ (fun _ _ _ _ _ _ us hl => match us, hl with | [_, _], _ => rfl)⟩
  exact f_law (P := P) (w := w) (base := base) D_law (He.glo_ok X G (c.fact 77 (f := .glo "law") rfl)) T0 TWindowSender RWindowSender MWindowSender_offer MWindowSender_note_sent MWindowSender_asks EFlow Fsender_of F_law_bag F_law_draw F_law_part F_law_sum F_law_rest F_law_less F_law_min F_law_same F_law_window F_law_made_flow
end YkHead
open PySem PySem.W PySem.Calls PyProof.Rows in
theorem PySem.Challenge.cw_bandheld_k80_whole_windows_by_parts_holds : PySem.Challenge.rw_bandheld_k80_whole_windows_by_parts.Holds := by
  w_on; o_law
  refine HandSHeadRun.head_imp (r := OpenLaw.row PySem.Challenge.rw_bandheld_k80_whole_windows_by_parts) (q := view (OpenLaw.row PySem.Challenge.rw_bandheld_k80_whole_windows_by_parts).prog [0, 70]) (H := YkHead.hk) (ob := YkHead.ob) (M := 8000) (loose := YkHead.loose) (d := HandSHeadRun.topDef (OpenLaw.row PySem.Challenge.rw_bandheld_k80_whole_windows_by_parts).prog 70) (kwd := []) YkHead.ob_eq YkHead.run
    (by kernel_rfl) (by kernel_rfl) (by kernel_rfl) (by rfl) (by first | assumption | decide +kernel) (by decide +kernel) ⟨rfl, rfl, rfl, rfl, rfl, by decide +kernel⟩ ?hw ?hc
  case hw => w_witness2
  case hc =>
    refine L2.walk_ofE (l := PySem.Challenge.rw_bandheld_k80_whole_windows_by_parts) (n := 63) (k := 9) (x := "_law_script") (CX := L2.CX0) rfl (by decide) (by kernel_rfl) ⟨rfl, by decide, by decide⟩ ?F (fun _ _ _ _ z => z)
    intro w mg fa h Y G hmg0
    obtain ⟨K, KX, c⟩ := Y
    have hmg : mg ("law" : PySem.Str) = some (.ref fa) := by
      have e : (HandSHeadRun.topDef (OpenLaw.row PySem.Challenge.rw_bandheld_k80_whole_windows_by_parts).prog 70).name = ("law" : PySem.Str) := by kernel_rfl
      rw [← e]
      exact hmg0
    obtain ⟨fd, hb, hF⟩ := YkHead.facts (P := (PySem.Challenge.rw_bandheld_k80_whole_windows_by_parts).prog) (w := w) KX G hmg c rfl (by kernel_rfl)
    exact ⟨K, fd, Yk.spLaw80 K, KX, hb, fun H a ns hl _ hS => ⟨a, ns, rfl, hS, hl, fun _ => rfl⟩, hF⟩

