import PyProof.Rows.All
import Wide.All
import OpenK.AllK
import Wide.FinOn
import HandS.ForMost
import HandS.Wide
import HandS.TupAny
import HandS.ExcValue
import HandS.Style
import HandS.More
import HandS.Defaults
import HandS.EndBits
import HandS.Flow
import HandS.Zip
import HandS.Star
import HandS.StrMore
import HandS.Set
import HandS.SetTxt0
import HandS.IsInst
import HandS.ExcIs
import KE.KRevSl
import PyProof.Rows.SortShellAny
import HandS.RaiseMore
import HandS.Conv
import HandS.IsInst
import HandS.ExcIs
import KE.KRevSl
import PyProof.InstEq
import KE.DataMinMax
import HandS.SortKw
import HandS.TupMul
import PyProof.StrLaws
import PySem.Challenge.RW_pageskips_k16_whole_filters_rewritten
set_option Elab.async false
set_option linter.all false
set_option maxRecDepth 100000
set_option maxHeartbeats 2000000
namespace Pg
open PySem PySem.Spec PyProof.Rows L2
/-! ### heaps: what a piece of the program keeps -/
/-- all that was tracked outside of S stands as it was; in S lists stay lists -/
structure Stp (S : List Addr) (H H' : Hp) : Prop where
  kp : ∀ a o, a ∉ S → H a = some o → H' a = some o
  ls : ∀ a xs, H a = some (.lst xs) → ∃ ys, H' a = some (.lst ys)
theorem Stp.refl (S : List Addr) (H : Hp) : Stp S H H := ⟨fun _ _ _ h => h, fun _ xs h => ⟨xs, h⟩⟩
theorem Stp.trans {S : List Addr} {H H1 H2 : Hp} (a : Stp S H H1) (b : Stp S H1 H2) : Stp S H H2 :=
  ⟨fun x o n h => b.kp x o n (a.kp x o n h), fun x xs h => by
    obtain ⟨ys, h1⟩ := a.ls x xs h
    exact b.ls x ys h1⟩
theorem Stp.sub {S S' : List Addr} {H H' : Hp} (a : Stp S H H') (h : ∀ x ∈ S, x ∈ S') : Stp S' H H' :=
  ⟨fun x o n q => a.kp x o (fun m => n (h x m)) q, a.ls⟩
theorem Stp.nil {S : List Addr} {H H' : Hp} (a : Stp [] H H') : Stp S H H' := a.sub fun _ h => nomatch h
theorem Stp.new {H : Hp} {p : Addr} {o : HO} (h : H p = none) (S : List Addr) : Stp S H (upd H p o) :=
  ⟨fun x u _ q => by rw [upd_ne (ne_of_none q h)]; exact q, fun x xs q => ⟨xs, by rw [upd_ne (ne_of_none q h)]; exact q⟩⟩
theorem Stp.put {S : List Addr} {H : Hp} {p : Addr} {ys : List V} (m : p ∈ S) : Stp S H (upd H p (.lst ys)) :=
  ⟨fun x u n q => by
    rw [upd_ne (fun e => n (by rw [e]; exact m))]
    exact q, fun x xs q => by
    by_cases e : x = p
    · subst e
      exact ⟨ys, upd_same⟩
    · exact ⟨xs, by rw [upd_ne e]; exact q⟩⟩
/-- a local object: it was not there -/
theorem Stp.loc {S : List Addr} {H H' : Hp} {p : Addr} (h : H p = none) (a : Stp (p :: S) H H') : Stp S H H' :=
  ⟨fun x o n q => a.kp x o (fun m => by
    rcases List.mem_cons.mp m with e | m
    · exact ne_of_none q h e
    · exact n m) q, a.ls⟩
theorem Stp.fresh {S : List Addr} {H H' : Hp} {p : Addr} (a : Stp S H H') (n : p ∉ S) (h : H' p = none) : H p = none := by
  cases e : H p with
  | none => rfl
  | some o =>
    rw [a.kp p o n e] at h
    cases h
/-- a list that was not there is changed -/
theorem Stp.mut {S : List Addr} {H H' : Hp} {p : Addr} {ys : List V} (a : Stp S H H') (h : H p = none) : Stp S H (upd H' p (.lst ys)) :=
  ⟨fun x o n q => by
    rw [upd_ne (ne_of_none q h)]
    exact a.kp x o n q, fun x xs q => by
    rw [upd_ne (ne_of_none q h)]
    exact a.ls x xs q⟩
theorem Stp.put' {S : List Addr} {H H' : Hp} {p : Addr} {ys : List V} (a : Stp S H H') (m : p ∈ S) : Stp S H (upd H' p (.lst ys)) := a.trans (Stp.put m)
theorem Stp.new' {S : List Addr} {H H' : Hp} {p : Addr} {o : HO} (a : Stp S H H') (h : H' p = none) : Stp S H (upd H' p o) := a.trans (Stp.new h S)
/-- only the list at p may differ -/
def Only (p : Addr) (H H' : Hp) : Prop := ∃ ys, H' = upd H p (.lst ys)
theorem Only.at {p q : Addr} {H H' : Hp} {o : HO} (h : Only p H H') (e : H q = some o) (n : q ≠ p) : H' q = some o := by
  obtain ⟨ys, rfl⟩ := h
  rw [upd_ne n]
  exact e
theorem Only.stp {p : Addr} {H H' : Hp} {S : List Addr} (h : Only p H H') (m : p ∈ S) : Stp S H H' := by
  obtain ⟨ys, rfl⟩ := h
  exact Stp.put m

/-! ### the draws -/
def BagV (x y z : Int) (n : Nat) : Prop := 0 ≤ x ∧ 0 ≤ y ∧ y < 2 ^ 40 ∧ 0 ≤ z ∧ z ≤ (n : Int)
/-- a bag stands at b, from which at most n draws have been made -/
def Bag (H : Hp) (b : Addr) (n : Nat) : Prop := ∃ x y z, H b = some (.lst [.int x, .int y, .int z]) ∧ BagV x y z n
theorem Bag.mono {H : Hp} {b : Addr} {n m : Nat} (h : Bag H b n) (e : n ≤ m) : Bag H b m := by
  obtain ⟨x, y, z, h1, h2, h3, h4, h5, h6⟩ := h
  exact ⟨x, y, z, h1, h2, h3, h4, h5, by omega⟩
theorem Bag.kp {H H' : Hp} {b : Addr} {n : Nat} {S : List Addr} (h : Bag H b n) (s : Stp S H H') (m : b ∉ S) : Bag H' b n := by
  obtain ⟨x, y, z, h1, h2⟩ := h
  exact ⟨x, y, z, s.kp _ _ m h1, h2⟩
theorem Bag.upd {H : Hp} {b p : Addr} {n : Nat} {o : HO} (h : Bag H b n) (e : b ≠ p) : Bag (L2.upd H p o) b n := by
  obtain ⟨x, y, z, h1, h2⟩ := h
  exact ⟨x, y, z, by rw [upd_ne e]; exact h1, h2⟩
theorem Bag.ne {H : Hp} {b p : Addr} {n : Nat} (h : Bag H b n) (q : H p = none) : b ≠ p := by
  obtain ⟨x, y, z, h1, h2⟩ := h
  exact ne_of_none h1 q
theorem cmul {i j : Int} (a b : Nat) (h1 : 0 ≤ i) (h2 : i < 2 ^ a) (h3 : 0 ≤ j) (h4 : j < 2 ^ b) (ha : 0 < a) (hb : 0 < b) (h : a + b ≤ 1000000) : CMulW i j := by
  refine wide_mul (a := a) (b := b) ?_ ?_ ha hb h
  · have e : ((i.natAbs : Nat) : Int) < ((2 ^ a : Nat) : Int) := by
      rw [Int.natAbs_of_nonneg h1, Int.natCast_pow]
      exact h2
    exact Int.ofNat_lt.mp e
  · have e : ((j.natAbs : Nat) : Int) < ((2 ^ b : Nat) : Int) := by
      rw [Int.natAbs_of_nonneg h3, Int.natCast_pow]
      exact h4
    exact Int.ofNat_lt.mp e
theorem cdiv {i j : Int} (b : Nat) (h1 : 0 < j) (h2 : j < 2 ^ b) (hb : 0 < b) (h9 : b ≤ 9000) : CDivW i j := by
  refine wide_div (b := b) h1 ?_ hb h9
  have e : ((j.natAbs : Nat) : Int) < ((2 ^ b : Nat) : Int) := by
    rw [Int.natAbs_of_nonneg (by omega), Int.natCast_pow]
    exact h2
  exact Int.ofNat_lt.mp e
theorem mul_lt {i j : Int} {a b : Nat} (h1 : 0 ≤ i) (h2 : i < 2 ^ a) (h3 : 0 ≤ j) (h4 : j < 2 ^ b) : 0 ≤ i * j ∧ i * j < 2 ^ (a + b) := by
  refine ⟨Int.mul_nonneg h1 h3, ?_⟩
  have e1 : i * j ≤ i * 2 ^ b := Int.mul_le_mul_of_nonneg_left (Int.le_of_lt h4) h1
  have hp : (0 : Int) < 2 ^ b := Int.pow_pos (by omega)
  have e2 : i * 2 ^ b < 2 ^ a * 2 ^ b := Int.mul_lt_mul_of_pos_right h2 hp
  rw [Int.pow_add]
  omega
/-- a letter for a number -/
theorem genQ {Q : V → Hp → Prop} {H : Hp} {i : Int} (h : ∀ t, t = i → Q (.int t) H) : Q (.int i) H := h i rfl
/-! ### rules of my own -/
section
variable {X : Cx}
/-- 'a' * n -/
theorem op_mul_str : OpR X (binaryOp .Mult) (fun x y H Q => ∃ i j, x = .str i ∧ y = .int j ∧ MulOk i j ∧ Q (.str (Txt.mul i j)) H) := by
  intro pins s σ H x y v u Q I rx ry h
  obtain ⟨i, j, rfl, rfl, hz, q⟩ := h
  obtain ⟨t, rfl⟩ := rx
  obtain ⟨t', rfl⟩ := ry
  exact SB.mul hz (fun t' k => ⟨.str (Txt.mul i j), H, I.tok _, ⟨_, rfl⟩, q⟩)
end
end Pg
namespace Pg
open PySem PySem.Spec PyProof.Rows L2
/-! ### a def of the text: where it stands, what it keeps -/
/-- a def of the text, found by its name -/
structure Df (K : PySem.W.Frag) (mg : Str → Option Value) (x : Str) (st : Stmt) (ps : List Str) (f : Addr) (fd : FuncData) : Prop where
  fn : Fun K x x st f fd
  at_ : mg x = some (.ref f)
  bd : Binds K fd ps []
/-- .. with its promise -/
structure Cl (P : Program) (w : World) (K : PySem.W.Frag) (mg : Str → Option Value) (base : Heap) (k : Nat) (x : Str) (st : Stmt) (ps : List Str) (sp : Sp) : Prop where
  ex : ∃ f fd, Df K mg x st ps f fd ∧ FnOk P w K mg base CX0 k f fd ps sp
theorem Cl.mono {P : Program} {w : World} {K : PySem.W.Frag} {mg : Str → Option Value} {base : Heap} {j k : Nat} {x : Str} {st : Stmt} {ps : List Str} {sp : Sp} (c : Cl P w K mg base j x st ps sp) (h : j ≤ k) : Cl P w K mg base k x st ps sp := by
  obtain ⟨f, fd, D, F⟩ := c.ex
  exact ⟨f, fd, D, F.mono h⟩
theorem Df.cl {P : Program} {w : World} {K : PySem.W.Frag} {mg : Str → Option Value} {base : Heap} {x : Str} {st : Stmt} {f : Addr} {fd : FuncData} {N ps : List Str} {k : Nat} {sp : Sp} (D : Df K mg x st ps f fd) (S : FnScope N ps (defScope st)) (len : ∀ vs H Q E, sp vs H Q E → vs.length = ps.length)
    (hbody : ∀ (cdv : Value) (A : Around) (outer : List Env) (s : Shared) (H : Hp) (vs : List V) (Q : VK) (E : XK), Room k (A.deeper (envOfC x (defScope st) s.heap.objs.size f cdv)) → sp vs H Q E →
      ∃ t, PSs (cxOf CX0 P w K mg base N x (defScope st) f cdv A outer s H E).nox (defBody st) t ∧ t { nx := fun _ H' => Q .non H', rt := Q } (start N vs) H) : Cl P w K mg base (k + 1) x st ps sp :=
  ⟨f, fd, D, D.fn.ok S len hbody⟩
def tCl (sp : Sp) (t : TA) : TE := fun σ H Q => t σ H fun vs H1 => sp vs H1 Q E0
section
variable {X : Cx} {j k : Nat} {st : Stmt} {ps : List Str} {sp : Sp} {x : Str} {p pos : Pos} {e : Expr} {es : List Expr} {t : TA}
theorem pe_cl (c : Cl X.prog X.w X.K X.mg X.base k x st ps sp) (hr : Room j X.A) (hk : k ≤ j) (ha : PA X (e :: es) t) (hg : Gl X x := by rfl) (hdb : (x == ("__debug__" : Str)) = false := by decide)
    (he : starEach (e :: es) X.env = (false, eval e X.env) :: starEach es X.env := by rfl) (hpl : (backTo pos (starEach es X.env)).any (·.1) = false := by rfl) :
    PE X (.Call (.Name x p) (e :: es) [] pos) (tCl sp t) := by
  obtain ⟨f, fd, D, F⟩ := c.ex
  refine ⟨fun pins s σ H Q I h => ?_⟩
  have q := (pe_call (E := E0) (p := p) (F.mono hk) hr hg D.at_ D.fn.kp D.bd .nil pass0 ha hdb he hpl).run pins s σ H Q I
  refine q ?_
  have h' : t σ H (fun vs H1 => sp vs H1 Q E0) := h
  show t σ H fun vs H1 => sp (vs ++ []) H1 Q E0
  simp only [List.append_nil]
  exact h'
theorem pe_cl0 (c : Cl X.prog X.w X.K X.mg X.base k x st ps sp) (hr : Room j X.A) (hk : k ≤ j) (hg : Gl X x := by rfl) (hdb : (x == ("__debug__" : Str)) = false := by decide) :
    PE X (.Call (.Name x p) [] [] pos) (tCl sp tNil) := by
  obtain ⟨f, fd, D, F⟩ := c.ex
  exact pe_call0 (E := E0) (F.mono hk) hr hg D.at_ D.fn.kp D.bd .nil pass0 hdb
/-- f(k = v, ..) -/
def tClK (sp : Sp) (gV : List V → List V → List V) (tk : TA) : TE := fun σ H Q => tk σ H fun zs H1 => sp (gV [] zs) H1 Q E0
theorem pe_clK {ks : List Str} {g : List Value → List Value → List Value} {gV : List V → List V → List V} {kws : List Keyword} {tk : TA} (c : Cl X.prog X.w X.K X.mg X.base k x st ps sp) (hr : Room j X.A) (hk : k ≤ j)
    (hb : ∀ f fd, Fun X.K x x st f fd → KBinds X.K fd ps ks g gV) (hkw : PK X kws tk)
    (hg : Gl X x := by rfl) (hall : (backToKw pos (keywordEach kws X.env)).all (·.1.isSome) = true := by rfl) (hks : (backToKw pos (keywordEach kws X.env)).filterMap (·.1) = ks := by rfl) (hdb : (x == ("__debug__" : Str)) = false := by decide)
    (hpl : ((backTo pos (starEach [] X.env)).any (·.1) || (backToKw pos (keywordEach kws X.env)).any (·.1.isNone)) = false := by rfl) :
    PE X (.Call (.Name x p) [] kws pos) (tClK sp gV tk) := by
  obtain ⟨f, fd, D, F⟩ := c.ex
  refine ⟨fun pins s σ H Q I h => ?_⟩
  refine wpAny_Call_Name_kw (ld_glob I hg D.at_ ?_ hdb)
  refine PySem.W.callWith_KW0 (h₀ := X.base) I.ok.mod.kin D.fn.kp hall ?_ hpl
  refine thn (hkw.run pos pins s σ H _ I h) fun ws s2 ⟨zs, H2, I2, rz, q2⟩ => ⟨I2.kIn, ?_⟩
  rw [hks]
  exact run_fnk (E := E0) (us := []) (vs := []) (F.mono hk) hr (hb f fd D.fn) pass0 I2 .nil rz q2
end
/-- keywords alone, in an order of their own -/
theorem kb_of {K : PySem.W.Frag} {x : Str} {st : Stmt} {f : Addr} {fd : FuncData} {ps ks : List Str} {g : List Value → List Value} {gV : List V → List V} (F : Fun K x x st f fd) (hne : ps ≠ [])
    (h : ∀ (kV doc pm : Value) (an : Option Addr) (cdv ct : Value) (ws : List Value), (g ws).length = ps.length → bindArgs (PySem.W.fnOf x x (defArgs st) (defBody st) (defScope st) .none kV doc pm an cdv ct) ⟨[], ks.zip ws⟩ = pure (ps.zip (g ws)))
    (r : ∀ {zs : List V} {ws : List Value}, Vals zs ws → Vals (gV zs) (g ws)) : KBinds K fd ps ks (fun us ws => match us with | [] => g ws | _ :: _ => []) (fun vs zs => match vs with | [] => gV zs | _ :: _ => []) := by
  obtain ⟨oc, od, kV, doc, pm, an, cdv, ct, osl, rfl, lk, hcd⟩ := F.ex
  refine ⟨fun s us ws _ hl => ?_, fun {vs us zs ws} r1 r2 => ?_⟩
  · cases us with
    | nil => exact .of_eq (h kV doc pm an cdv ct ws hl)
    | cons u us => exact absurd (List.length_eq_zero_iff.mp hl.symm) hne
  · cases r1 with
    | nil => exact r r2
    | cons _ _ => exact .nil
end Pg
namespace Pg
open PySem PySem.Spec PyProof.Rows L2
open Builtin Builtin.Str
/-! ### texts as lists of letters -/
/-- the text of these signs -/
abbrev tx (l : List Nat) : Str := ⟨l.toArray⟩
abbrev Tx (l : List Nat) : V := .str (tx l)
/-- letters a, b, c alone -/
def Abc (l : List Nat) : Prop := ∀ c ∈ l, c = 97 ∨ c = 98 ∨ c = 99
theorem tx_inj {a b : List Nat} (h : tx a = tx b) : a = b := by
  have q : (tx a).cps.toList = (tx b).cps.toList := by rw [h]
  simpa using q
theorem tx_of (s : Str) : ∃ l, s = tx l := ⟨s.cps.toList, by cases s; simp [tx]⟩
theorem tx_len (l : List Nat) : (tx l).length = l.length := by simp [Str.length]
theorem tx_app (a b : List Nat) : tx a ++ tx b = tx (a ++ b) := by
  show (⟨a.toArray ++ b.toArray⟩ : Str) = _
  simp [tx]
theorem tx_cut (l : List Nat) (lo hi : Option Int) : cutS (tx l) lo hi = tx ((l.drop (HT.sIx l.length 0 lo)).take (HT.sIx l.length l.length hi - HT.sIx l.length 0 lo)) := by
  unfold cutS
  rw [tx_len]
theorem tx_upto (l : List Nat) (k : Nat) : cutS (tx l) none (some (k : Int)) = tx (l.take k) := by
  rw [tx_cut, HT.sIx_none, HT.sIx_nat]
  rw [List.drop_zero, Nat.sub_zero]
  rcases Nat.le_total k l.length with h | h
  · rw [Nat.min_eq_left h]
  · rw [Nat.min_eq_right h, List.take_of_length_le (Nat.le_refl _), List.take_of_length_le h]
theorem tx_init (l : List Nat) : cutS (tx l) none (some (-1)) = tx l.dropLast := by
  rw [tx_cut, HT.sIx_none]
  have e : HT.sIx l.length l.length (some (-1)) = l.length - 1 := by
    show (if (-1 : Int) < 0 then ((-1 : Int) + (l.length : Int)).toNat else min (-1 : Int).toNat l.length) = _
    rw [if_pos (by decide)]
    omega
  rw [e, List.drop_zero, Nat.sub_zero, ← List.dropLast_eq_take]
theorem tx_last (l : List Nat) : cutS (tx l) (some (-1)) none = tx (l.drop (l.length - 1)) := by
  rw [tx_cut, HT.sIx_none]
  have e : HT.sIx l.length 0 (some (-1)) = l.length - 1 := by
    show (if (-1 : Int) < 0 then ((-1 : Int) + (l.length : Int)).toNat else min (-1 : Int).toNat l.length) = _
    rw [if_pos (by decide)]
    omega
  rw [e]
  congr 2
  rw [List.take_of_length_le]
  rw [List.length_drop]
  exact Nat.le_refl _
theorem foldl_app_rep {α : Type} (c : α) : ∀ (n : Nat) (acc : Array α), (List.replicate n #[c]).foldl (· ++ ·) acc = acc ++ (List.replicate n c).toArray
  | 0, acc => by simp
  | n + 1, acc => by
    rw [List.replicate_succ, List.foldl_cons, foldl_app_rep c n, List.replicate_succ]
    apply Array.ext'
    simp
theorem tx_mul (c : Nat) (n : Int) : Txt.mul (tx [c]) n = tx (List.replicate n.toNat c) := by
  unfold Txt.mul
  by_cases h : n < 1
  · rw [if_pos h, show n.toNat = 0 by omega]
    rfl
  · rw [if_neg h]
    by_cases h1 : n = 1
    · subst h1
      rfl
    · rw [if_neg (by simp [h1, Str.length])]
      show (⟨(List.replicate n.toNat #[c]).foldl (· ++ ·) #[]⟩ : Str) = _
      rw [foldl_app_rep]
      simp [tx]
theorem mulOk (c : Nat) {n : Int} (h0 : -1000 ≤ n) (h1 : n ≤ 100000) : MulOk (tx [c]) n := by
  refine ⟨by simp; omega, fun a b q => ?_, fun a b => ?_⟩
  · rw [tx_len] at q
    have e : (1 : Int) ≤ (2 ^ 63 - 1) / n := by
      have hp : 0 < n := by omega
      exact (Int.le_ediv_iff_mul_le hp).mpr (by omega)
    have q' : (([c].length : Nat) : Int) = 1 := rfl
    rw [q'] at q
    have e2 : (1 : Int) > (2 ^ 63 - 1) / n := q
    exact absurd e (by omega)
  · rw [tx_len]
    have e : ([c].length * n.toNat) ≤ sizeLine := Nat.le_trans (show [c].length * n.toNat ≤ 100000 by simp; omega) (by decide)
    unfold tooLong
    simpa using e
theorem foldl_app {α : Type} : ∀ (ps : List (List α)) (acc : Array α), (ps.map List.toArray).foldl (fun a p => a ++ p) acc = acc ++ ps.flatten.toArray
  | [], acc => by simp
  | p :: ps, acc => by
    rw [List.map_cons, List.foldl_cons, foldl_app ps, List.flatten_cons]
    apply Array.ext'
    simp
theorem join_abc (cs : List Nat) : Txt.join (tx []) (cs.map fun c => tx [c]) = tx cs := by
  cases cs with
  | nil => rfl
  | cons c cs =>
    show (⟨((cs.map fun c => tx [c])).foldl (fun acc p => acc ++ (tx []).cps ++ p.cps) (tx [c]).cps⟩ : Str) = _
    have e : ∀ (l : List Nat) (acc : Array Nat), (l.map fun c => tx [c]).foldl (fun acc p => acc ++ (tx []).cps ++ p.cps) acc = acc ++ l.toArray := by
      intro l
      induction l with
      | nil => intro acc; simp
      | cons x l ih =>
        intro acc
        rw [List.map_cons, List.foldl_cons, ih]
        apply Array.ext'
        simp
    rw [e]
    simp [tx]
theorem Abc.nil : Abc [] := fun _ h => nomatch h
theorem Abc.app {a b : List Nat} (h : Abc a) (g : Abc b) : Abc (a ++ b) := fun c m => (List.mem_append.mp m).elim (h c) (g c)
theorem Abc.take {a : List Nat} (h : Abc a) (n : Nat) : Abc (a.take n) := fun c m => h c (List.mem_of_mem_take m)
theorem Abc.drop {a : List Nat} (h : Abc a) (n : Nat) : Abc (a.drop n) := fun c m => h c (List.mem_of_mem_drop m)
theorem Abc.init {a : List Nat} (h : Abc a) : Abc a.dropLast := fun c m => h c (List.dropLast_subset _ m)
theorem Abc.rep (n : Nat) {c : Nat} (h : c = 97 ∨ c = 98 ∨ c = 99) : Abc (List.replicate n c) := fun x m => by
  rw [(List.mem_replicate.mp m).2]
  exact h
theorem Abc.one {c : Nat} (h : c = 97 ∨ c = 98 ∨ c = 99) : Abc [c] := fun x m => by
  rw [List.mem_singleton.mp m]
  exact h
theorem abc_lit : ("abc" : Str) = tx [97, 98, 99] := by decide +kernel
theorem nil_lit : ("" : Str) = tx [] := by decide +kernel
theorem goes_abc (c : Nat) : (tx [97, 98, 99]).cps.contains c = true ↔ (c = 97 ∨ c = 98 ∨ c = 99) := by
  simp [tx]
/-- strip('abc') leaves nothing just of letters alone -/
theorem strip_abc (l : List Nat) : (Txt.stripChars (tx l) (tx [97, 98, 99]) = tx []) ↔ Abc l := by
  unfold Txt.stripChars
  rw [stripBy_eq]
  obtain ⟨a1, a2, a3⟩ := lo_facts (tx [97, 98, 99]).cps.contains (tx l)
  obtain ⟨b1, b2, b3, b4⟩ := hi_facts (tx [97, 98, 99]).cps.contains (tx l) _ a1
  generalize stripLo (tx [97, 98, 99]).cps.contains true (tx l) = lo at *
  generalize stripHi (tx [97, 98, 99]).cps.contains true (tx l) lo = hi at *
  have gd : ∀ k, (tx l).cps.getD k 0 = l.getD k 0 := fun k => by rw [← getD_list]
  have hlen : (tx l).length = l.length := tx_len l
  rw [hlen] at a1 a3 b2 b3
  have size : (strSub (tx l) lo hi).length = hi - lo := by
    unfold strSub Str.length
    simp
    omega
  constructor
  · intro h
    have e : hi - lo = 0 := by rw [← size, h]; rfl
    have e2 : hi = lo := by omega
    subst e2
    have all : ∀ k, k < l.length → (tx [97, 98, 99]).cps.contains (l.getD k 0) = true := fun k hk => by
      rw [← gd]
      by_cases q : k < hi
      · exact a2 k q
      · exact b3 k (by omega) hk
    intro c m
    obtain ⟨k, hk, rfl⟩ := List.mem_iff_getElem.mp m
    have := all k hk
    rw [List.getD_eq_getElem?_getD, List.getElem?_eq_getElem hk] at this
    exact (goes_abc _).mp this
  · intro h
    have e : lo = l.length := by
      rcases a3 with e | e
      · exact e
      · by_cases q : lo < l.length
        · rw [gd, List.getD_eq_getElem?_getD, List.getElem?_eq_getElem q] at e
          have := (goes_abc _).mpr (h _ (List.getElem_mem q))
          rw [Option.getD_some] at e
          rw [e] at this
          cases this
        · omega
    have z : (strSub (tx l) lo hi).length = 0 := by omega
    have : (strSub (tx l) lo hi).cps = #[] := Array.eq_empty_of_size_eq_zero z
    cases hh : strSub (tx l) lo hi with
    | mk c =>
      rw [hh] at this
      show (⟨c⟩ : Str) = ⟨#[]⟩
      rw [show c = #[] from this]
/-! ### picking -/
theorem pick {α : Type} {xs : List α} {d : Int} (h0 : 0 ≤ d) (h1 : d < (xs.length : Int)) : ∃ v, v ∈ xs ∧ atI xs d = some v := by
  obtain ⟨k, rfl⟩ := Int.eq_ofNat_of_zero_le h0
  have hk : k < xs.length := by omega
  exact ⟨xs[k], List.getElem_mem hk, atI_nat (List.getElem?_eq_getElem hk)⟩
theorem pick_int {ns : List Int} {d : Int} (h0 : 0 ≤ d) (h1 : d < (ns.length : Int)) : ∃ v, v ∈ ns ∧ atI (ns.map V.int) d = some (.int v) := by
  obtain ⟨v, m, e⟩ := pick (xs := ns.map V.int) h0 (by rw [List.length_map]; exact h1)
  obtain ⟨n, hn, rfl⟩ := List.mem_map.mp m
  exact ⟨n, hn, e⟩
theorem at0 {α : Type} {a : α} {l : List α} : atI (a :: l) 0 = some a := atI_nat (j := 0) rfl
theorem at1 {α : Type} {a b : α} {l : List α} : atI (a :: b :: l) 1 = some b := atI_nat (j := 1) rfl
theorem sz {n : Nat} (h : n ≤ 100000) : n ≤ sizeLine := Nat.le_trans h (by decide)
theorem szt {l : List Nat} (h : l.length ≤ 100000) : (tx l).length ≤ sizeLine := by
  rw [tx_len]
  exact sz h
theorem inV_str (s : Str) : ∀ ws : List Str, inV (.str s) (ws.map V.str) = decide (s ∈ ws)
  | [] => rfl
  | x :: ws => by
    have ih := inV_str s ws
    unfold inV at ih ⊢
    rw [List.map_cons, List.any_cons, ih]
    show ((x == s) || decide (s ∈ ws)) = _
    by_cases e : x = s
    · subst e
      simp
    · have : (x == s) = false := beq_eq_false_iff_ne.mpr e
      rw [this]
      simp
      exact fun q => absurd q.symm e
end Pg
namespace Pg
open PySem PySem.Spec PyProof.Rows L2
/-! ### lists of texts, compared -/
theorem strOk_abc {l : List Nat} (h : Abc l) : PyData.canLay0 (.str (tx l)) = true := by
  unfold PyData.canLay0 PyData.strOk
  simp
  intro c m
  rcases h c m with e | e | e <;> subst e <;> decide
theorem canLay_strs : ∀ {ls : List (List Nat)}, (∀ l ∈ ls, Abc l) → PyData.canLayAll0 (ls.map fun l => .str (tx l)) = true
  | [], _ => rfl
  | l :: ls, h => by
    show (PyData.canLay0 (.str (tx l)) && PyData.canLayAll0 (ls.map fun l => .str (tx l))) = true
    rw [strOk_abc (h l List.mem_cons_self), canLay_strs fun m q => h m (List.mem_cons_of_mem _ q)]
    rfl
theorem depth_strs : ∀ (ls : List (List Nat)), PyData.depthAll (ls.map fun l => .str (tx l)) = 0
  | [] => rfl
  | l :: ls => by
    show max 0 (PyData.depthAll (ls.map fun l => .str (tx l))) = 0
    rw [depth_strs ls]
    rfl
theorem shaped_strs {ls : List (List Nat)} (h : ∀ l ∈ ls, Abc l) : SeqAt.shaped (.list (ls.map fun l => .str (tx l))) = true := by
  unfold SeqAt.shaped
  rw [show PyData.canLay0 (.list (ls.map fun l => .str (tx l))) = true from canLay_strs h]
  rw [show PyData.depth (.list (ls.map fun l => .str (tx l))) = 0 + 1 by show PyData.depthAll _ + 1 = _; rw [depth_strs]]
  rfl
theorem dp_strs {K : PySem.W.Frag} {H : Hp} : ∀ (ls : List (List Nat)), DpAll K H (ls.map Tx) (ls.map fun l => .str (tx l))
  | [] => .nil
  | l :: ls => .cons (.str _) (dp_strs ls)
theorem ne_nil_strs {K : PySem.W.Frag} {H : Hp} {p q : Addr} {ls : List (List Nat)} {Q : VK} (hp : SqL K H p (ls.map Tx)) (h : ∀ l ∈ ls, Abc l) (hq : H q = some (.lst [])) (k : Q (.bl (!ls.isEmpty)) H) : rNeD K (.ref p) (.ref q) H Q := by
  refine ⟨.list (ls.map fun l => .str (tx l)), .list [], .lst hp (dp_strs ls), .lst (SqL.of hq) .nil, shaped_strs h, rfl, ?_⟩
  have e : PyData.eqv (.list (ls.map fun l => .str (tx l))) (.list []) = ls.isEmpty := by
    cases ls with
    | nil => rfl
    | cons l ls => rfl
  rw [e]
  exact k
end Pg
namespace Pg
open PySem PySem.Spec PyProof.Rows L2
/-! ### any values: what they are, as far as the program looks -/
inductive Dt where
  | non | bl (b : Bool) | int (i : Int) | str (l : List Nat) | tup (ds : List Dt) | lst | obj
mutual
def Dt.dep : Dt → Nat
  | .tup ds => Dt.depL ds + 1
  | _ => 0
def Dt.depL : List Dt → Nat
  | [] => 0
  | d :: ds => max d.dep (Dt.depL ds)
end
theorem Dt.dep_mem : ∀ {ds : List Dt} {d : Dt}, d ∈ ds → d.dep ≤ Dt.depL ds
  | e :: ds, d, m => by
    rcases List.mem_cons.mp m with rfl | m
    · exact Nat.le_max_left _ _
    · exact Nat.le_trans (Dt.dep_mem m) (Nat.le_max_right _ _)
theorem Dt.depL_le : ∀ {ds : List Dt} {n : Nat}, (∀ d ∈ ds, d.dep ≤ n) → Dt.depL ds ≤ n
  | [], _, _ => Nat.zero_le _
  | d :: ds, n, h => Nat.max_le.mpr ⟨h d List.mem_cons_self, Dt.depL_le fun e m => h e (List.mem_cons_of_mem _ m)⟩
mutual
inductive Rp (K : PySem.W.Frag) (H : Hp) : V → Dt → Prop
  | non : Rp K H .non .non
  | bl (b : Bool) : Rp K H (.bl b) (.bl b)
  | int (i : Int) : Rp K H (.int i) (.int i)
  | str (l : List Nat) (h : l.length ≤ 100000) : Rp K H (Tx l) (.str l)
  | tup {a : Addr} {vs : List V} {ds : List Dt} : SqT K H a vs → vs.length ≤ 100000 → RpL K H vs ds → Rp K H (.ref a) (.tup ds)
  | lst {a : Addr} {vs : List V} : H a = some (.lst vs) → Rp K H (.ref a) .lst
  | obj {a C : Addr} : H a = some (ExO (.ref C) a) → Rp K H (.ref a) .obj
inductive RpL (K : PySem.W.Frag) (H : Hp) : List V → List Dt → Prop
  | nil : RpL K H [] []
  | cons {v : V} {vs : List V} {d : Dt} {ds : List Dt} : Rp K H v d → RpL K H vs ds → RpL K H (v :: vs) (d :: ds)
end
/-- S has nothing but lists -/
def Lsts (H : Hp) (S : List Addr) : Prop := ∀ p ∈ S, ∃ xs, H p = some (.lst xs)
theorem Lsts.nil {H : Hp} : Lsts H [] := fun _ m => nomatch m
theorem Lsts.one {H : Hp} {p : Addr} {xs : List V} (h : H p = some (.lst xs)) : Lsts H [p] := fun q m => by
  rw [List.mem_singleton.mp m]
  exact ⟨xs, h⟩
theorem Lsts.cons {H : Hp} {p : Addr} {S : List Addr} {xs : List V} (h : H p = some (.lst xs)) (t : Lsts H S) : Lsts H (p :: S) := fun q m => by
  rcases List.mem_cons.mp m with rfl | m
  · exact ⟨xs, h⟩
  · exact t q m
theorem Lsts.stp {H H' : Hp} {S S' : List Addr} (h : Lsts H S) (s : Stp S' H H') : Lsts H' S := fun p m => by
  obtain ⟨xs, e⟩ := h p m
  exact s.ls p xs e
theorem sqt_stp {K : PySem.W.Frag} {H H' : Hp} {S : List Addr} {a : Addr} {vs : List V} (s : Stp S H H') (l : Lsts H S) (h : SqT K H a vs) : SqT K H' a vs := by
  rcases h with (h | ⟨o, h⟩) | h
  · refine .inl (.inl (s.kp a _ (fun m => ?_) h))
    obtain ⟨xs, e⟩ := l a m
    rw [h] at e
    cases e
  · refine .inl (.inr ⟨o, s.kp a _ (fun m => ?_) h⟩)
    obtain ⟨xs, e⟩ := l a m
    rw [h] at e
    cases e
  · exact .inr h
mutual
theorem Rp.stp {K : PySem.W.Frag} {H H' : Hp} {S : List Addr} (s : Stp S H H') (l : Lsts H S) : ∀ {v : V} {d : Dt}, Rp K H v d → Rp K H' v d
  | _, .non, .non => .non
  | _, .bl _, .bl b => .bl b
  | _, .int _, .int i => .int i
  | _, .str _, .str x h => .str x h
  | _, .tup ds, .tup h n r => .tup (sqt_stp s l h) n (RpL.stp s l r)
  | _, .lst, .lst (a := a) (vs := vs) h => by
    obtain ⟨ys, e⟩ := s.ls a vs h
    exact .lst e
  | _, .obj, .obj (a := a) (C := C) h => by
    refine .obj (C := C) (s.kp a _ (fun m => ?_) h)
    obtain ⟨xs, e⟩ := l a m
    rw [h] at e
    cases e
theorem RpL.stp {K : PySem.W.Frag} {H H' : Hp} {S : List Addr} (s : Stp S H H') (l : Lsts H S) : ∀ {vs : List V} {ds : List Dt}, RpL K H vs ds → RpL K H' vs ds
  | _, [], .nil => .nil
  | _, _ :: _, .cons h r => .cons (Rp.stp s l h) (RpL.stp s l r)
end
theorem RpL.len {K : PySem.W.Frag} {H : Hp} : ∀ {vs : List V} {ds : List Dt}, RpL K H vs ds → vs.length = ds.length
  | _, [], .nil => rfl
  | _, _ :: _, .cons _ r => by rw [List.length_cons, List.length_cons, RpL.len r]
theorem RpL.get {K : PySem.W.Frag} {H : Hp} : ∀ {vs : List V} {ds : List Dt} {i : Nat} {v : V}, RpL K H vs ds → vs[i]? = some v → ∃ d, ds[i]? = some d ∧ Rp K H v d
  | _, [], _, _, .nil, e => by simp at e
  | _, d :: _, 0, _, .cons h _, e => by
    simp at e
    subst e
    exact ⟨d, rfl, h⟩
  | _, _ :: _, i + 1, v, .cons _ r, e => RpL.get (i := i) (v := v) r (by simpa using e)
theorem RpL.app {K : PySem.W.Frag} {H : Hp} : ∀ {vs ws : List V} {ds es : List Dt}, RpL K H vs ds → RpL K H ws es → RpL K H (vs ++ ws) (ds ++ es)
  | _, _, [], _, .nil, q => q
  | _, _, _ :: _, _, .cons h r, q => .cons h (RpL.app r q)
theorem RpL.one {K : PySem.W.Frag} {H : Hp} : ∀ {vs : List V} {ds : List Dt}, RpL K H vs ds → vs.length = 1 → ∃ v d, vs = [v] ∧ ds = [d] ∧ Rp K H v d
  | _, [], .nil, h => by simp at h
  | _, [d], .cons h .nil, _ => ⟨_, d, rfl, rfl, h⟩
  | _, _ :: _ :: _, .cons _ (.cons _ _), h => by simp at h
/-! ### type(x), is -/
/-- the name of a value's built-in class; none for an object of the package -/
def Dt.ty : Dt → Option String
  | .non => some "NoneType"
  | .bl _ => some "bool"
  | .int _ => some "int"
  | .str _ => some "str"
  | .tup _ => some "tuple"
  | .lst => some "list"
  | .obj => none
def rTy (K : PySem.W.Frag) : List V → Hp → VK → Prop := fun xs H Q => ∃ x d, xs = [x] ∧ Rp K H x d ∧ ∀ y, (∀ T, d.ty = some T → y = .ty T) → (d.ty = none → ∃ C, y = .ref C) → Q y H
section
variable {X : Cx}
theorem call_type : CallR X (.type "type") (rTy X.K) := by
  intro pins s σ H xs us Q I r h
  obtain ⟨x, d, rfl, rp, q⟩ := h
  have old : ∀ T, TyB X.K H x T → d.ty = some T → wpAny (model X.prog X.w) X.A (call (.type "type") us) (EP X pins σ Q) X.xe s := fun T t e => by
    refine call_type1 pins s σ H [x] us Q I r ⟨x, T, rfl, t, q _ (fun T' e' => ?_) (fun n => ?_)⟩
    · rw [e] at e'
      cases e'
      rfl
    · rw [e] at n
      cases n
  cases rp with
  | non => exact old _ .non rfl
  | bl b => exact old _ (.bl b) rfl
  | int i => exact old _ (.int i) rfl
  | str l hl => exact old _ (.str _) rfl
  | tup hs hn ha => exact old _ (.tup hs) rfl
  | lst hs => exact old _ (.lst (SqL.of hs)) rfl
  | obj ho =>
    rename_i a C
    obtain ⟨u, rfl, rx⟩ := vals1 r
    cases rx
    obtain ⟨⟨oe, vs, e1, ⟨e2, e3⟩, e4, _⟩, _⟩ := I.hok _ _ ho
    obtain ⟨hh, g, dd, t, os⟩ := s
    exact call_type_obj e1 (by rw [e2]; rfl) (by rw [e2]; exact ⟨.ref C, H, I, rfl, q _ (fun T e => nomatch e) (fun _ => ⟨C, rfl⟩)⟩)
def rTyIs (neg : Bool) : R2 := fun x y H Q => ∃ T, y = .ty T ∧ ((∃ T', x = .ty T' ∧ Q (.bl (neg ^^ decide (T' = T))) H) ∨ ∃ C, x = .ref C ∧ Q (.bl neg) H)
theorem op_isTy : OpR X (compareOp .Is) (rTyIs false) := by
  intro pins s σ H x y v u Q I rx ry h
  obtain ⟨T, rfl, ⟨T', rfl, q⟩ | ⟨C, rfl, q⟩⟩ := h
  · exact op_isTyB pins s σ H _ _ _ _ _ I rx ry ⟨T', T, rfl, rfl, by rwa [Bool.false_xor] at q⟩
  · cases (show v = Value.ref C from rx)
    cases (show u = Value.type T from ry)
    exact wpAny_is_other rfl (by intro e; cases e) ⟨.bl false, H, I, rfl, q⟩
theorem op_notTy : OpR X (compareOp .IsNot) (rTyIs true) := by
  intro pins s σ H x y v u Q I rx ry h
  obtain ⟨T, rfl, ⟨T', rfl, q⟩ | ⟨C, rfl, q⟩⟩ := h
  · exact op_notTyB pins s σ H _ _ _ _ _ I rx ry ⟨T', T, rfl, rfl, by rwa [Bool.true_xor] at q⟩
  · cases (show v = Value.ref C from rx)
    cases (show u = Value.type T from ry)
    exact wpAny_isNot_other rfl (by intro e; cases e) ⟨.bl true, H, I, rfl, q⟩
end
/-- type(x) is T, type(x) is not T -/
theorem ty_is {K : PySem.W.Frag} {H : Hp} {x : V} {d : Dt} {T : String} {neg : Bool} {Q : VK} (r : Rp K H x d) (k : Q (.bl (neg ^^ decide (d.ty = some T))) H) : rTy K [x] H fun y H1 => rTyIs neg y (.ty T) H1 Q := by
  refine ⟨x, d, rfl, r, fun y h1 h2 => ⟨T, rfl, ?_⟩⟩
  cases e : d.ty with
  | none =>
    obtain ⟨C, rfl⟩ := h2 e
    refine .inr ⟨C, rfl, ?_⟩
    rw [e] at k
    simpa using k
  | some T' =>
    rw [h1 T' e]
    refine .inl ⟨T', rfl, ?_⟩
    rw [e] at k
    simpa using k
/-! ### type(e) is T as one piece -/
def Mono (te : TE) : Prop := ∀ σ H (Q Q' : VK), (∀ v H', Q v H' → Q' v H') → te σ H Q → te σ H Q'
theorem Mono.var {i : Nat} : Mono (tVar i) := fun σ H Q Q' h ⟨v, e, q⟩ => ⟨v, e, h _ _ q⟩
theorem Mono.c {v : V} : Mono (tC v) := fun σ H Q Q' h q => h _ _ q
theorem Mono.op {r : R2} {ta tb : TE} (ha : Mono ta) (hb : Mono tb) (hr : ∀ x y H (Q Q' : VK), (∀ v H', Q v H' → Q' v H') → r x y H Q → r x y H Q') : Mono (tOp r ta tb) := fun σ H Q Q' h q =>
  ha σ H _ _ (fun x H1 q1 => hb σ H1 _ _ (fun y H2 q2 => hr x y H2 _ _ h q2) q1) q
theorem Mono.ixT {K : PySem.W.Frag} {ta tb : TE} (ha : Mono ta) (hb : Mono tb) : Mono (tOp (rIxT K) ta tb) := Mono.op ha hb fun _ _ _ _ _ h ⟨p, xs, i, v, e1, e2, e3, e4, q⟩ => ⟨p, xs, i, v, e1, e2, e3, e4, h _ _ q⟩
theorem Mono.ixL {K : PySem.W.Frag} {ta tb : TE} (ha : Mono ta) (hb : Mono tb) : Mono (tOp (rIxL K) ta tb) := Mono.op ha hb fun _ _ _ _ _ h ⟨p, xs, i, v, e1, e2, e3, e4, q⟩ => ⟨p, xs, i, v, e1, e2, e3, e4, h _ _ q⟩
def tTyIs (K : PySem.W.Frag) (neg : Bool) (T : String) (te : TE) : TE := fun σ H Q => te σ H fun x H1 => ∃ d, Rp K H1 x d ∧ Q (.bl (neg ^^ decide (d.ty = some T))) H1
def tTTyIs (K : PySem.W.Frag) (neg : Bool) (T : String) (te : TE) : TT := fun σ H Q => te σ H fun x H1 => ∃ d, Rp K H1 x d ∧ Q (neg ^^ decide (d.ty = some T)) H1
section
variable {X : Cx} {e : Expr} {te : TE} {T : String} {x : Str} {p pos q pos2 : Pos}
theorem pe_tyIs (hm : Mono te) (he : PE X e te) (hn : X.mg "type" = none) (hT : X.mg x = none) (hv : bootBuiltins x = some (Value.type T)) (hg : Gl X "type" := by rfl) (hgT : Gl X x := by rfl) (hnn : x ≠ "__name__" := by decide) (hd : (x == ("__debug__" : Str)) = false := by decide)
    (hs : starEach [e] X.env = (false, eval e X.env) :: starEach [] X.env := by rfl) (hpl : (backTo pos (starEach [] X.env)).any (·.1) = false := by rfl) :
    PE X (.Compare (.Call (.Name "type" p) [e] [] pos) [.Is] [.Name x q] pos2) (tTyIs X.K false T te) := by
  have h := pe_cmpR (X := X) (pos := pos2) op_isTy (pe_callTy (p := p) (pos := pos) call_type hg hn (by decide +kernel) (pa_cons he pa_nil (hs := hs)) (he := hs) (hpl := hpl)) (pe_bltn (v := .ty T) (pos := q) hgT hT hv rfl hnn hd) (nomark _)
  refine ⟨fun pins s σ H Q I hw => h.run pins s σ H Q I ?_⟩
  exact hm σ H _ _ (fun v H1 ⟨d, r, k⟩ => ty_is (neg := false) r k) hw
theorem pe_tyNot (hm : Mono te) (he : PE X e te) (hn : X.mg "type" = none) (hT : X.mg x = none) (hv : bootBuiltins x = some (Value.type T)) (hg : Gl X "type" := by rfl) (hgT : Gl X x := by rfl) (hnn : x ≠ "__name__" := by decide) (hd : (x == ("__debug__" : Str)) = false := by decide)
    (hs : starEach [e] X.env = (false, eval e X.env) :: starEach [] X.env := by rfl) (hpl : (backTo pos (starEach [] X.env)).any (·.1) = false := by rfl) :
    PE X (.Compare (.Call (.Name "type" p) [e] [] pos) [.IsNot] [.Name x q] pos2) (tTyIs X.K true T te) := by
  have h := pe_cmpR (X := X) (pos := pos2) op_notTy (pe_callTy (p := p) (pos := pos) call_type hg hn (by decide +kernel) (pa_cons he pa_nil (hs := hs)) (he := hs) (hpl := hpl)) (pe_bltn (v := .ty T) (pos := q) hgT hT hv rfl hnn hd) (nomark _)
  refine ⟨fun pins s σ H Q I hw => h.run pins s σ H Q I ?_⟩
  exact hm σ H _ _ (fun v H1 ⟨d, r, k⟩ => ty_is (neg := true) r k) hw
theorem pt_tyIs (hm : Mono te) (he : PE X e te) (hn : X.mg "type" = none) (hT : X.mg x = none) (hv : bootBuiltins x = some (Value.type T)) (hg : Gl X "type" := by rfl) (hgT : Gl X x := by rfl) (hnn : x ≠ "__name__" := by decide) (hd : (x == ("__debug__" : Str)) = false := by decide)
    (hs : starEach [e] X.env = (false, eval e X.env) :: starEach [] X.env := by rfl) (hpl : (backTo pos (starEach [] X.env)).any (·.1) = false := by rfl) :
    PT X (.Compare (.Call (.Name "type" p) [e] [] pos) [.Is] [.Name x q] pos2) (tTTyIs X.K false T te) := by
  have h := pt_cmpR (X := X) (pos := pos2) op_isTy (pe_callTy (p := p) (pos := pos) call_type hg hn (by decide +kernel) (pa_cons he pa_nil (hs := hs)) (he := hs) (hpl := hpl)) (pe_bltn (v := .ty T) (pos := q) hgT hT hv rfl hnn hd) (nomark _)
  refine ⟨fun pins s σ H Q I hw => h.run pins s σ H Q I ?_⟩
  exact hm σ H _ _ (fun v H1 ⟨d, r, k⟩ => ty_is (neg := false) (Q := fun x H' => ∃ k, x = .bl k ∧ Q k H') r ⟨_, rfl, k⟩) hw
theorem pt_tyNot (hm : Mono te) (he : PE X e te) (hn : X.mg "type" = none) (hT : X.mg x = none) (hv : bootBuiltins x = some (Value.type T)) (hg : Gl X "type" := by rfl) (hgT : Gl X x := by rfl) (hnn : x ≠ "__name__" := by decide) (hd : (x == ("__debug__" : Str)) = false := by decide)
    (hs : starEach [e] X.env = (false, eval e X.env) :: starEach [] X.env := by rfl) (hpl : (backTo pos (starEach [] X.env)).any (·.1) = false := by rfl) :
    PT X (.Compare (.Call (.Name "type" p) [e] [] pos) [.IsNot] [.Name x q] pos2) (tTTyIs X.K true T te) := by
  have h := pt_cmpR (X := X) (pos := pos2) op_notTy (pe_callTy (p := p) (pos := pos) call_type hg hn (by decide +kernel) (pa_cons he pa_nil (hs := hs)) (he := hs) (hpl := hpl)) (pe_bltn (v := .ty T) (pos := q) hgT hT hv rfl hnn hd) (nomark _)
  refine ⟨fun pins s σ H Q I hw => h.run pins s σ H Q I ?_⟩
  exact hm σ H _ _ (fun v H1 ⟨d, r, k⟩ => ty_is (neg := true) (Q := fun x H' => ∃ k, x = .bl k ∧ Q k H') r ⟨_, rfl, k⟩) hw
end
end Pg
namespace Pg
open PySem PySem.Spec PyProof.Rows L2
/-! ### readings are monotone: a piece may be cut off by what it leaves -/
def MonoT (t : TT) : Prop := ∀ σ H (Q Q' : Bool → Hp → Prop), (∀ b H', Q b H' → Q' b H') → t σ H Q → t σ H Q'
def MonoA (t : TA) : Prop := ∀ σ H (Q Q' : List V → Hp → Prop), (∀ vs H', Q vs H' → Q' vs H') → t σ H Q → t σ H Q'
def MonoS (sp : Sp) : Prop := ∀ vs H (Q Q' : VK) E, (∀ v H', Q v H' → Q' v H') → sp vs H Q E → sp vs H Q' E
def MonoR (r : R2) : Prop := ∀ x y H (Q Q' : VK), (∀ v H', Q v H' → Q' v H') → r x y H Q → r x y H Q'
def MonoC (r : List V → Hp → VK → Prop) : Prop := ∀ vs H (Q Q' : VK), (∀ v H', Q v H' → Q' v H') → r vs H Q → r vs H Q'
theorem Mono.cut {te : TE} (m : Mono te) {σ : L2.St} {H : Hp} {Q : VK} (P : V → Hp → Prop) (h : te σ H P) (k : ∀ v H', P v H' → Q v H') : te σ H Q := m σ H P Q k h
theorem MonoT.cut {t : TT} (m : MonoT t) {σ : L2.St} {H : Hp} {Q : Bool → Hp → Prop} (P : Bool → Hp → Prop) (h : t σ H P) (k : ∀ b H', P b H' → Q b H') : t σ H Q := m σ H P Q k h
theorem MonoR.i0 {g : Int → Int → V} : MonoR (rI0 g) := fun _ _ _ _ _ h ⟨i, j, e1, e2, q⟩ => ⟨i, j, e1, e2, h _ _ q⟩
theorem MonoR.i {C : Int → Int → Prop} {g : Int → Int → V} : MonoR (rI C g) := fun _ _ _ _ _ h ⟨i, j, e1, e2, c, q⟩ => ⟨i, j, e1, e2, c, h _ _ q⟩
theorem MonoR.eq : MonoR rEq := fun _ _ _ _ _ h ⟨s, q⟩ => ⟨s, h _ _ q⟩
theorem MonoR.ne : MonoR rNe := fun _ _ _ _ _ h ⟨s, q⟩ => ⟨s, h _ _ q⟩
theorem MonoR.ixL {K : PySem.W.Frag} : MonoR (rIxL K) := fun _ _ _ _ _ h ⟨p, xs, i, v, e1, e2, e3, e4, q⟩ => ⟨p, xs, i, v, e1, e2, e3, e4, h _ _ q⟩
theorem MonoR.ixT {K : PySem.W.Frag} : MonoR (rIxT K) := fun _ _ _ _ _ h ⟨p, xs, i, v, e1, e2, e3, e4, q⟩ => ⟨p, xs, i, v, e1, e2, e3, e4, h _ _ q⟩
theorem MonoR.ixS : MonoR rIxS := fun _ _ _ _ _ h ⟨z, i, c, e1, e2, e3, e4, q⟩ => ⟨z, i, c, e1, e2, e3, e4, h _ _ q⟩
theorem MonoR.inn {K : PySem.W.Frag} {neg : Bool} : MonoR (rIn K neg) := fun _ _ _ _ _ h ⟨p, xs, e1, e2, e3, e4, q⟩ => ⟨p, xs, e1, e2, e3, e4, h _ _ q⟩
theorem MonoR.neD {K : PySem.W.Frag} : MonoR (rNeD K) := fun _ _ _ _ _ h ⟨d, e, a, b, c, f, q⟩ => ⟨d, e, a, b, c, f, h _ _ q⟩
theorem MonoR.eqD {K : PySem.W.Frag} : MonoR (rEqD K) := fun _ _ _ _ _ h ⟨d, e, a, b, c, f, q⟩ => ⟨d, e, a, b, c, f, h _ _ q⟩
theorem MonoR.str {C : Str → Str → Prop} {g : Str → Str → V} : MonoR (fun x y H Q => ∃ i j, x = .str i ∧ y = .str j ∧ C i j ∧ Q (g i j) H) := fun _ _ _ _ _ h ⟨i, j, a, b, c, q⟩ => ⟨i, j, a, b, c, h _ _ q⟩
theorem MonoR.str0 {g : Str → Str → V} : MonoR (fun x y H Q => ∃ i j, x = .str i ∧ y = .str j ∧ Q (g i j) H) := fun _ _ _ _ _ h ⟨i, j, a, b, q⟩ => ⟨i, j, a, b, h _ _ q⟩
theorem Mono.op' {r : R2} {ta tb : TE} (hr : MonoR r) (ha : Mono ta) (hb : Mono tb) : Mono (tOp r ta tb) := Mono.op ha hb hr
theorem Mono.tif {t : TT} {ta tb : TE} (ht : MonoT t) (ha : Mono ta) (hb : Mono tb) : Mono (tIf t ta tb) := fun σ H Q Q' h q => ht σ H _ _ (fun b H1 q1 => by
  cases b with
  | true => exact ha σ H1 _ _ h q1
  | false => exact hb σ H1 _ _ h q1) q
theorem MonoT.test {te : TE} (h : Mono te) : MonoT (tTest te) := fun σ H Q Q' k q => h σ H _ _ (fun x H1 ⟨c, e, q1⟩ => ⟨c, e, k _ _ q1⟩) q
theorem MonoT.b {te : TE} (h : Mono te) : MonoT (tB te) := fun σ H Q Q' k q => h σ H _ _ (fun x H1 ⟨c, e, q1⟩ => ⟨c, e, k _ _ q1⟩) q
theorem MonoT.not {t : TT} (h : MonoT t) : MonoT (tNot t) := fun σ H Q Q' k q => h σ H _ _ (fun b H1 q1 => k _ _ q1) q
theorem MonoT.and {t u : TT} (h : MonoT t) (g : MonoT u) : MonoT (tAnd t u) := fun σ H Q Q' k q => h σ H _ _ (fun b H1 q1 => by
  cases b with
  | true => exact g σ H1 _ _ k q1
  | false => exact k _ _ q1) q
theorem MonoT.or {t u : TT} (h : MonoT t) (g : MonoT u) : MonoT (tOr t u) := fun σ H Q Q' k q => h σ H _ _ (fun b H1 q1 => by
  cases b with
  | true => exact k _ _ q1
  | false => exact g σ H1 _ _ k q1) q
theorem MonoA.nil : MonoA tNil := fun _ _ _ _ h q => h _ _ q
theorem MonoA.cons {te : TE} {ta : TA} (h : Mono te) (g : MonoA ta) : MonoA (tCons te ta) := fun σ H Q Q' k q => h σ H _ _ (fun x H1 q1 => g σ H1 _ _ (fun vs H2 q2 => k _ _ q2) q1) q
theorem Mono.cl {sp : Sp} {ta : TA} (hs : MonoS sp) (ha : MonoA ta) : Mono (tCl sp ta) := fun σ H Q Q' k q => ha σ H _ _ (fun vs H1 q1 => hs vs H1 _ _ E0 k q1) q
theorem Mono.cb {r : List V → Hp → VK → Prop} {ta : TA} (hs : MonoC r) (ha : MonoA ta) : Mono (tCB r ta) := fun σ H Q Q' k q => ha σ H _ _ (fun vs H1 q1 => hs vs H1 _ _ k q1) q
theorem Mono.tup {ta : TA} (ha : MonoA ta) : Mono (tTup ta) := fun σ H Q Q' k q => ha σ H _ _ (fun vs H1 ⟨l, q1⟩ => ⟨l, fun p hp => k _ _ (q1 p hp)⟩) q
theorem Mono.lst {ta : TA} (ha : MonoA ta) : Mono (tLst ta) := fun σ H Q Q' k q => ha σ H _ _ (fun vs H1 ⟨l, q1⟩ => ⟨l, fun p hp => k _ _ (q1 p hp)⟩) q
/-- one of two constants -/
theorem ite_tC {c : Prop} [Decidable c] {a b : V} {σ : L2.St} {H : Hp} {Q : VK} (h : ∀ v, v = a ∨ v = b → Q v H) : if c then tC a σ H Q else tC b σ H Q := by
  split
  · exact h a (.inl rfl)
  · exact h b (.inr rfl)
theorem MonoC.two {g : Int → Int → V} : MonoC (fun xs H Q => ∃ i j, xs = [.int i, .int j] ∧ Q (g i j) H) := fun _ _ _ _ h ⟨i, j, e, q⟩ => ⟨i, j, e, h _ _ q⟩
theorem MonoC.int1 : MonoC (fun xs H Q => (∃ i, xs = [.int i] ∧ Q (.int i) H) ∨ ∃ k : Bool, xs = [.bl k] ∧ Q (.int (if k then 1 else 0)) H) := fun _ _ _ _ h q => by
  rcases q with ⟨i, e, q⟩ | ⟨i, e, q⟩
  · exact .inl ⟨i, e, h _ _ q⟩
  · exact .inr ⟨i, e, h _ _ q⟩
theorem RpL.strs {K : PySem.W.Frag} {H : Hp} : ∀ {ws : List (List Nat)}, (∀ l ∈ ws, l.length ≤ 100000) → RpL K H (ws.map Tx) (ws.map Dt.str)
  | [], _ => .nil
  | l :: ws, h => .cons (.str l (h l List.mem_cons_self)) (RpL.strs fun m q => h m (List.mem_cons_of_mem _ q))
theorem dep_strs : ∀ (ws : List (List Nat)), Dt.depL (ws.map Dt.str) = 0
  | [] => rfl
  | l :: ws => by
    show max 0 (Dt.depL (ws.map Dt.str)) = 0
    rw [dep_strs ws]
    rfl
/-- a text of the program's own as a value -/
theorem Rp.lit {K : PySem.W.Frag} {H : Hp} (s : Str) (h : s.cps.toList.length ≤ 100000 := by decide +kernel) : Rp K H (.str s) (.str s.cps.toList) := by
  have := Rp.str (K := K) (H := H) s.cps.toList h
  have e : tx s.cps.toList = s := by cases s <;> simp [tx]
  rwa [Tx, e] at this
end Pg
namespace Pg
open PySem PySem.Spec PyProof.Rows L2
/-! ### expressions that build data: what they evaluate to -/
def EvD (K : PySem.W.Frag) (te : TE) (σ : L2.St) (H : Hp) (d : Dt) : Prop := ∀ H1, Stp [] H H1 → ∀ Q : VK, (∀ v H2, Stp [] H1 H2 → Rp K H2 v d → Q v H2) → te σ H1 Q
def EvDA (K : PySem.W.Frag) (ta : TA) (σ : L2.St) (H : Hp) (ds : List Dt) : Prop := ∀ H1, Stp [] H H1 → ∀ Q : List V → Hp → Prop, (∀ vs H2, Stp [] H1 H2 → RpL K H2 vs ds → Q vs H2) → ta σ H1 Q
section
variable {K : PySem.W.Frag} {te : TE} {ta : TA} {σ : L2.St} {H : Hp} {d : Dt} {ds : List Dt}
theorem EvD.bl {b : Bool} : EvD K (tC (.bl b)) σ H (.bl b) := fun H1 _ _ k => k _ H1 (Stp.refl _ _) (.bl b)
theorem EvD.int {i : Int} : EvD K (tC (.int i)) σ H (.int i) := fun H1 _ _ k => k _ H1 (Stp.refl _ _) (.int i)
theorem EvD.non : EvD K (tC .non) σ H .non := fun H1 _ _ k => k _ H1 (Stp.refl _ _) .non
theorem EvD.str {s : Str} (h : s.cps.toList.length ≤ 100000 := by decide +kernel) : EvD K (tC (.str s)) σ H (.str s.cps.toList) := fun H1 _ _ k => k _ H1 (Stp.refl _ _) (Rp.lit s h)
theorem EvD.var {i : Nat} {v : V} (r : Rp K H v d) (e : σ[i]? = some (some v) := by rfl) : EvD K (tVar i) σ H d := fun H1 s _ k => ⟨v, e, k v H1 (Stp.refl _ _) (r.stp s Lsts.nil)⟩
theorem EvDA.nil : EvDA K tNil σ H [] := fun H1 _ _ k => k [] H1 (Stp.refl _ _) .nil
theorem EvDA.cons (h : EvD K te σ H d) (g : EvDA K ta σ H ds) : EvDA K (tCons te ta) σ H (d :: ds) := fun H1 s Q k =>
  h H1 s _ fun v H2 s2 r => g H2 (s.trans s2) _ fun vs H3 s3 rs => k (v :: vs) H3 (s2.trans s3) (.cons (r.stp s3 Lsts.nil) rs)
theorem EvD.tup (h : EvDA K ta σ H ds) (hl : ds.length ≤ 1000) : EvD K (tTup ta) σ H (.tup ds) := fun H1 s Q k =>
  h H1 s _ fun vs H2 s2 rs => ⟨sz (by rw [rs.len]; omega), fun p np => k _ _ (s2.new' np) (.tup (SqT.of upd_same) (by rw [rs.len]; omega) (rs.stp (Stp.new np []) Lsts.nil))⟩
theorem EvD.lst (h : EvDA K ta σ H ds) (hl : ds.length ≤ 1000) : EvD K (tLst ta) σ H .lst := fun H1 s Q k =>
  h H1 s _ fun vs H2 s2 rs => ⟨sz (by rw [rs.len]; omega), fun p np => k _ _ (s2.new' np) (.lst upd_same)⟩
theorem EvD.exc {C : Addr} (h : EvD K te σ H d) : EvD K (fun σ H Q => te σ H fun _ H1 => ∀ a, H1 a = none → Q (.ref a) (upd H1 a (ExO (.ref C) a))) σ H .obj := fun H1 s Q k =>
  h H1 s _ fun v H2 s2 _ => fun a na => k _ _ (s2.new' na) (.obj upd_same)
theorem EvD.cat {tb : TE} {a b : List Nat} (h : EvD K te σ H (.str a)) (g : EvD K tb σ H (.str b)) (hl : a.length + b.length ≤ 100000) : EvD K (tOp (fun x y H Q => ∃ i j, x = .str i ∧ y = .str j ∧ i.length + j.length ≤ sizeLine ∧ Q (.str (i ++ j)) H) te tb) σ H (.str (a ++ b)) := fun H1 s Q k =>
  h H1 s _ fun v H2 s2 r => g H2 (s.trans s2) _ fun u H3 s3 q => by
    cases r with
    | str _ h1 =>
      cases q with
      | str _ h2 =>
        refine ⟨tx a, tx b, rfl, rfl, by rw [tx_len, tx_len]; exact sz hl, ?_⟩
        rw [tx_app]
        exact k _ _ (s2.trans s3) (.str _ (by rw [List.length_append]; exact hl))
theorem EvD.pow {i j : Int} (h : CPow i j) : EvD K (tOp (rI CPow fun i j => .int (i ^ j.toNat)) (tC (.int i)) (tC (.int j))) σ H (.int (i ^ j.toNat)) := fun H1 s Q k =>
  ⟨i, j, rfl, rfl, h, k _ _ (Stp.refl _ _) (.int _)⟩
theorem EvD.neg {i : Int} : EvD K (tUn (rU fun i => .int (-i)) (tC (.int i))) σ H (.int (-i)) := fun H1 s Q k => ⟨i, rfl, k _ _ (Stp.refl _ _) (.int _)⟩
/-- list(t) of a tuple -/
theorem EvD.list (h : EvD K te σ H (.tup ds)) : EvD K (tCB (fun xs H Q => ∃ p ys, xs = [.ref p] ∧ (SqL K H p ys ∨ SqT K H p ys) ∧ ∀ l, H l = none → Q (.ref l) (upd H l (.lst ys))) (tCons te tNil)) σ H .lst := fun H1 s Q k =>
  h H1 s _ fun v H2 s2 r => by
    cases r with
    | tup hs hn rl => exact ⟨_, _, rfl, .inr hs, fun l nl => k _ _ (s2.new' nl) (.lst upd_same)⟩
theorem EvDA.use (h : EvDA K ta σ H ds) {Q : List V → Hp → Prop} (k : ∀ vs H2, Stp [] H H2 → RpL K H2 vs ds → Q vs H2) : ta σ H Q := h H (Stp.refl _ _) Q k
theorem EvD.use (h : EvD K te σ H d) {Q : VK} (k : ∀ v H2, Stp [] H H2 → Rp K H2 v d → Q v H2) : te σ H Q := h H (Stp.refl _ _) Q k
/-- a new list of data -/
theorem EvDA.newl (h : EvDA K ta σ H ds) (hl : ds.length ≤ 1000) {Q : VK} (k : ∀ p vs H2, Stp [] H H2 → H p = none → H2 p = some (.lst vs) → RpL K H2 vs ds → Q (.ref p) H2) : tLst ta σ H Q :=
  h.use fun vs H2 s rs => ⟨sz (by rw [rs.len]; omega), fun p np => k p vs _ (s.new' np) (s.fresh (fun m => nomatch m) np) upd_same (rs.stp (Stp.new np []) Lsts.nil)⟩
end
/-! ### tuples put together, cut -/
theorem catA_use {K : PySem.W.Frag} {H : Hp} {a b : Addr} {xs ys : List V} {Q : VK} (ha : SqT K H a xs) (hb : SqT K H b ys) (hl : xs.length + ys.length ≤ 100000) (k : ∀ p H', Stp [] H H' → SqT K H' p (xs ++ ys) → Q (.ref p) H') : rCatA K (.ref a) (.ref b) H Q := by
  refine ⟨a, b, xs, ys, rfl, rfl, ha, hb, sz hl, fun e => ?_, fun _ e => ?_, fun _ _ p np => ?_⟩
  · subst e
    exact k b H (Stp.refl _ _) hb
  · subst e
    refine k a H (Stp.refl _ _) ?_
    rw [List.append_nil]
    exact ha
  · exact k p _ (Stp.new np _) (SqT.of upd_same)
theorem slA_use {K : PySem.W.Frag} {H : Hp} {a : Addr} {xs : List V} {lo hi : Option Int} {Q : VK} (ha : SqT K H a xs) (k : ∀ p H', Stp [] H H' → SqT K H' p (cutV xs lo hi) → Q (.ref p) H') : rSlA K (.ref a) lo hi H Q := by
  refine ⟨a, xs, rfl, ha, fun ⟨e1, e2⟩ => ?_, fun _ p np => ?_⟩
  · refine k a H (Stp.refl _ _) ?_
    have e : cutV xs lo hi = xs := by
      unfold cutV
      rw [e1, e2, List.drop_zero, Nat.sub_zero, List.take_length]
    rw [e]
    exact ha
  · exact k p _ (Stp.new np _) (SqT.of upd_same)
theorem cut_upto {xs : List V} (k : Nat) : cutV xs none (some (k : Int)) = xs.take k := by
  unfold cutV
  rw [HT.sIx_none, HT.sIx_nat, List.drop_zero, Nat.sub_zero]
  rcases Nat.le_total k xs.length with h | h
  · rw [Nat.min_eq_left h]
  · rw [Nat.min_eq_right h, List.take_of_length_le (Nat.le_refl _), List.take_of_length_le h]
theorem cut_from {xs : List V} (k : Nat) : cutV xs (some (k : Int)) none = xs.drop k := by
  unfold cutV
  rw [HT.sIx_none, HT.sIx_nat]
  rcases Nat.le_total k xs.length with h | h
  · rw [Nat.min_eq_left h, List.take_of_length_le (by rw [List.length_drop]; exact Nat.le_refl _)]
  · rw [Nat.min_eq_right h, List.drop_length, List.drop_of_length_le h, List.take_nil]
theorem RpL.take {K : PySem.W.Frag} {H : Hp} : ∀ {vs : List V} {ds : List Dt} (n : Nat), RpL K H vs ds → RpL K H (vs.take n) (ds.take n)
  | _, _, 0, _ => by rw [List.take_zero, List.take_zero]; exact .nil
  | _, [], _ + 1, .nil => .nil
  | _, _ :: _, n + 1, .cons h r => .cons h (RpL.take n r)
theorem RpL.drop {K : PySem.W.Frag} {H : Hp} : ∀ {vs : List V} {ds : List Dt} (n : Nat), RpL K H vs ds → RpL K H (vs.drop n) (ds.drop n)
  | _, _, 0, r => r
  | _, [], _ + 1, .nil => .nil
  | _, _ :: _, n + 1, .cons _ r => RpL.drop n r
/-! ### heads of statements -/
theorem asg_name {te : TE} {i : Nat} {u : TS} {D : Ends} {σ : L2.St} {H : Hp} (h : te σ H fun x H1 => u D (σ.set i (some x)) H1) : tSeq (tAsg te (gName i)) u D σ H := h
theorem op_var {r : R2} {i : Nat} {tb : TE} {σ : L2.St} {H : Hp} {Q : VK} {v : V} (e : σ[i]? = some (some v)) (h : tb σ H fun y H2 => r v y H2 Q) : tOp r (tVar i) tb σ H Q := ⟨v, e, h⟩
theorem nopart {σ : L2.St} {H : Hp} {Q : Option Int → Hp → Prop} (h : Q none H) : tNoPart σ H Q := h
end Pg
namespace Pv
open PySem PySem.Spec PyProof.Rows L2 Pg
/-! ### values with all that is in them -/
inductive D where
  | non | bl (b : Bool) | int (i : Int) | str (l : List Nat) | tup (ds : List D) | lst (ds : List D) | obj (C : Addr)
mutual
def D.old : D → Dt
  | .non => .non
  | .bl b => .bl b
  | .int i => .int i
  | .str l => .str l
  | .tup ds => .tup (D.olds ds)
  | .lst _ => .lst
  | .obj _ => .obj
def D.olds : List D → List Dt
  | [] => []
  | d :: ds => d.old :: D.olds ds
end
def D.ty (d : D) : Option String := d.old.ty
/-- isinstance(d, T) -/
def D.isi (T : String) : D → Bool
  | .bl _ => T == "bool" || T == "int"
  | .int _ => T == "int"
  | .str _ => T == "str"
  | .tup _ => T == "tuple"
  | .lst _ => T == "list"
  | _ => false
/-- what the class of an object says -/
structure OkC (K : PySem.W.Frag) (C : Addr) : Prop where
  exc : ExcC K C
  is_str : PySem.W.kitOne K (.ref C) (.type "str") = some false
  is_int : PySem.W.kitOne K (.ref C) (.type "int") = some false
  is_bool : PySem.W.kitOne K (.ref C) (.type "bool") = some false
  is_tuple : PySem.W.kitOne K (.ref C) (.type "tuple") = some false
  is_list : PySem.W.kitOne K (.ref C) (.type "list") = some false
mutual
/-- v is d; no list in it stands at an address of S -/
inductive Rv (K : PySem.W.Frag) (S : List Addr) (H : Hp) : V → D → Prop
  | non : Rv K S H .non .non
  | bl (b : Bool) : Rv K S H (.bl b) (.bl b)
  | int (i : Int) : Rv K S H (.int i) (.int i)
  | str (l : List Nat) (h : l.length ≤ 100000) : Rv K S H (Tx l) (.str l)
  | tup {a : Addr} {vs : List V} {ds : List D} : SqT K H a vs → vs.length ≤ 100000 → RvL K S H vs ds → Rv K S H (.ref a) (.tup ds)
  | lst {a : Addr} {vs : List V} {ds : List D} : H a = some (.lst vs) → a ∉ S → vs.length ≤ 100000 → RvL K S H vs ds → Rv K S H (.ref a) (.lst ds)
  | obj {a C : Addr} : H a = some (ExO (.ref C) a) → OkC K C → Rv K S H (.ref a) (.obj C)
inductive RvL (K : PySem.W.Frag) (S : List Addr) (H : Hp) : List V → List D → Prop
  | nil : RvL K S H [] []
  | cons {v : V} {vs : List V} {d : D} {ds : List D} : Rv K S H v d → RvL K S H vs ds → RvL K S H (v :: vs) (d :: ds)
end
section
variable {K : PySem.W.Frag} {S : List Addr} {H H' : Hp}
mutual
theorem Rv.old : ∀ {v : V} {d : D}, Rv K S H v d → Rp K H v d.old
  | _, .non, .non => .non
  | _, .bl _, .bl b => .bl b
  | _, .int _, .int i => .int i
  | _, .str _, .str x h => .str x h
  | _, .tup ds, .tup h n r => .tup h n (RvL.old r)
  | _, .lst _, .lst h _ _ _ => .lst h
  | _, .obj _, .obj h _ => .obj h
theorem RvL.old : ∀ {vs : List V} {ds : List D}, RvL K S H vs ds → RpL K H vs (D.olds ds)
  | _, [], .nil => .nil
  | _, _ :: _, .cons h r => .cons (Rv.old h) (RvL.old r)
end
mutual
theorem Rv.fr {S' : List Addr} (s : Stp S' H H') (l : Lsts H S') (sub : ∀ x ∈ S', x ∈ S) : ∀ {v : V} {d : D}, Rv K S H v d → Rv K S H' v d
  | _, .non, .non => .non
  | _, .bl _, .bl b => .bl b
  | _, .int _, .int i => .int i
  | _, .str _, .str x h => .str x h
  | _, .tup ds, .tup h n r => .tup (sqt_stp s l h) n (RvL.fr s l sub r)
  | _, .lst ds, .lst h o n r => .lst (s.kp _ _ (fun m => o (sub _ m)) h) o n (RvL.fr s l sub r)
  | _, .obj _, .obj (a := a) (C := C) h k => by
    refine .obj (C := C) (s.kp a _ (fun m => ?_) h) k
    obtain ⟨xs, e⟩ := l a m
    rw [h] at e
    cases e
theorem RvL.fr {S' : List Addr} (s : Stp S' H H') (l : Lsts H S') (sub : ∀ x ∈ S', x ∈ S) : ∀ {vs : List V} {ds : List D}, RvL K S H vs ds → RvL K S H' vs ds
  | _, [], .nil => .nil
  | _, _ :: _, .cons h r => .cons (Rv.fr s l sub h) (RvL.fr s l sub r)
end
theorem Rv.stp {v : V} {d : D} (r : Rv K S H v d) (s : Stp S H H') (l : Lsts H S) : Rv K S H' v d := Rv.fr s l (fun _ m => m) r
theorem RvL.stp {vs : List V} {ds : List D} (r : RvL K S H vs ds) (s : Stp S H H') (l : Lsts H S) : RvL K S H' vs ds := RvL.fr s l (fun _ m => m) r
theorem Rv.up {v : V} {d : D} (r : Rv K S H v d) (s : Stp [] H H') : Rv K S H' v d := Rv.fr s Lsts.nil (fun _ m => nomatch m) r
theorem RvL.up {vs : List V} {ds : List D} (r : RvL K S H vs ds) (s : Stp [] H H') : RvL K S H' vs ds := RvL.fr s Lsts.nil (fun _ m => nomatch m) r
mutual
theorem Rv.sub {S' : List Addr} (h : ∀ x ∈ S', x ∈ S) : ∀ {v : V} {d : D}, Rv K S H v d → Rv K S' H v d
  | _, .non, .non => .non
  | _, .bl _, .bl b => .bl b
  | _, .int _, .int i => .int i
  | _, .str _, .str x h => .str x h
  | _, .tup ds, .tup q n r => .tup q n (RvL.sub h r)
  | _, .lst ds, .lst q o n r => .lst q (fun m => o (h _ m)) n (RvL.sub h r)
  | _, .obj _, .obj q k => .obj q k
theorem RvL.sub {S' : List Addr} (h : ∀ x ∈ S', x ∈ S) : ∀ {vs : List V} {ds : List D}, RvL K S H vs ds → RvL K S' H vs ds
  | _, [], .nil => .nil
  | _, _ :: _, .cons q r => .cons (Rv.sub h q) (RvL.sub h r)
end
theorem RvL.len : ∀ {vs : List V} {ds : List D}, RvL K S H vs ds → vs.length = ds.length
  | _, [], .nil => rfl
  | _, _ :: _, .cons _ r => by rw [List.length_cons, List.length_cons, RvL.len r]
theorem RvL.get : ∀ {vs : List V} {ds : List D} {i : Nat} {v : V}, RvL K S H vs ds → vs[i]? = some v → ∃ d, ds[i]? = some d ∧ Rv K S H v d
  | _, [], _, _, .nil, e => by simp at e
  | _, d :: _, 0, _, .cons h _, e => by
    simp at e
    subst e
    exact ⟨d, rfl, h⟩
  | _, _ :: _, i + 1, v, .cons _ r, e => RvL.get (i := i) (v := v) r (by simpa using e)
theorem RvL.app : ∀ {vs ws : List V} {ds es : List D}, RvL K S H vs ds → RvL K S H ws es → RvL K S H (vs ++ ws) (ds ++ es)
  | _, _, [], _, .nil, q => q
  | _, _, _ :: _, _, .cons h r, q => .cons h (RvL.app r q)
theorem RvL.take : ∀ {vs : List V} {ds : List D} (n : Nat), RvL K S H vs ds → RvL K S H (vs.take n) (ds.take n)
  | _, _, 0, _ => by rw [List.take_zero, List.take_zero]; exact .nil
  | _, [], _ + 1, .nil => .nil
  | _, _ :: _, n + 1, .cons h r => .cons h (RvL.take n r)
theorem RvL.drop : ∀ {vs : List V} {ds : List D} (n : Nat), RvL K S H vs ds → RvL K S H (vs.drop n) (ds.drop n)
  | _, _, 0, r => r
  | _, [], _ + 1, .nil => .nil
  | _, _ :: _, n + 1, .cons _ r => RvL.drop n r
theorem RvL.rev : ∀ {vs : List V} {ds : List D}, RvL K S H vs ds → RvL K S H vs.reverse ds.reverse
  | _, [], .nil => .nil
  | _, _ :: _, .cons h r => by
    rw [List.reverse_cons, List.reverse_cons]
    exact RvL.app (RvL.rev r) (.cons h .nil)
theorem RvL.pick {vs : List V} {ds : List D} {i : Int} (r : RvL K S H vs ds) (h0 : 0 ≤ i) (h1 : i < (ds.length : Int)) : ∃ v d, d ∈ ds ∧ Rv K S H v d ∧ atI vs i = some v := by
  obtain ⟨k, rfl⟩ := Int.eq_ofNat_of_zero_le h0
  have hk : k < vs.length := by rw [r.len]; omega
  obtain ⟨d, hd, rd⟩ := r.get (List.getElem?_eq_getElem hk)
  exact ⟨vs[k], d, List.mem_of_getElem? hd, rd, atI_nat (List.getElem?_eq_getElem hk)⟩
/-- a text of the program's own -/
def wd (s : Str) : D := .str s.cps.toList
theorem tx_cps (s : Str) : tx s.cps.toList = s := by cases s <;> simp [tx]
theorem Rv.lit (s : Str) (h : s.cps.toList.length ≤ 100000 := by decide +kernel) : Rv K S H (.str s) (wd s) := by
  have := Rv.str (K := K) (S := S) (H := H) s.cps.toList h
  rwa [Tx, tx_cps] at this
theorem out_new {p : Addr} (l : Lsts H S) (h : H p = none) : p ∉ S := fun m => by
  obtain ⟨xs, e⟩ := l p m
  rw [h] at e
  cases e
/-- a new tuple, a new list -/
theorem Rv.newT {p : Addr} {vs : List V} {ds : List D} (np : H p = none) (r : RvL K S H vs ds) (h : ds.length ≤ 100000) : Rv K S (upd H p (.tup vs)) (.ref p) (.tup ds) := .tup (SqT.of upd_same) (by rw [r.len]; exact h) (r.up (Stp.new np []))
theorem Rv.newL {p : Addr} {vs : List V} {ds : List D} (l : Lsts H S) (np : H p = none) (r : RvL K S H vs ds) (h : ds.length ≤ 100000) : Rv K S (upd H p (.lst vs)) (.ref p) (.lst ds) := .lst upd_same (out_new l np) (by rw [r.len]; exact h) (r.up (Stp.new np []))
theorem Lsts.up {H H' : Hp} (l : Lsts H S) (s : Stp [] H H') : Lsts H' S := l.stp s
end
/-! ### type(x) is T -/
theorem D.ty_old (d : D) : d.old.ty = d.ty := rfl
theorem ty_non : D.non.ty = some "NoneType" := rfl
theorem ty_bl {b : Bool} : (D.bl b).ty = some "bool" := rfl
theorem ty_int {i : Int} : (D.int i).ty = some "int" := rfl
theorem ty_str {l : List Nat} : (D.str l).ty = some "str" := rfl
theorem ty_tup {ds : List D} : (D.tup ds).ty = some "tuple" := by unfold D.ty D.old; rfl
theorem ty_lst {ds : List D} : (D.lst ds).ty = some "list" := by unfold D.ty D.old; rfl
theorem ty_obj {C : Addr} : (D.obj C).ty = none := rfl
theorem D.lst_of {d : D} (h : d.ty = some "list") : ∃ ds, d = .lst ds := by
  cases d with
  | lst ds => exact ⟨ds, rfl⟩
  | tup ds => rw [ty_tup] at h; exact absurd h (by decide)
  | obj C => rw [ty_obj] at h; cases h
  | non => exact absurd h (by rw [ty_non]; decide)
  | bl b => exact absurd h (by rw [ty_bl]; decide)
  | int i => exact absurd h (by rw [ty_int]; decide)
  | str l => exact absurd h (by rw [ty_str]; decide)
theorem D.tup_of {d : D} (h : d.ty = some "tuple") : ∃ ds, d = .tup ds := by
  cases d with
  | tup ds => exact ⟨ds, rfl⟩
  | lst ds => rw [ty_lst] at h; exact absurd h (by decide)
  | obj C => rw [ty_obj] at h; cases h
  | non => exact absurd h (by rw [ty_non]; decide)
  | bl b => exact absurd h (by rw [ty_bl]; decide)
  | int i => exact absurd h (by rw [ty_int]; decide)
  | str l => exact absurd h (by rw [ty_str]; decide)
theorem D.str_of {d : D} (h : d.ty = some "str") : ∃ l, d = .str l := by
  cases d with
  | str ds => exact ⟨ds, rfl⟩
  | lst ds => rw [ty_lst] at h; exact absurd h (by decide)
  | tup ds => rw [ty_tup] at h; exact absurd h (by decide)
  | obj C => rw [ty_obj] at h; cases h
  | non => exact absurd h (by rw [ty_non]; decide)
  | bl b => exact absurd h (by rw [ty_bl]; decide)
  | int i => exact absurd h (by rw [ty_int]; decide)
theorem D.int_of {d : D} (h : d.ty = some "int") : ∃ i, d = .int i := by
  cases d with
  | int i => exact ⟨i, rfl⟩
  | lst ds => rw [ty_lst] at h; exact absurd h (by decide)
  | tup ds => rw [ty_tup] at h; exact absurd h (by decide)
  | obj C => rw [ty_obj] at h; cases h
  | non => exact absurd h (by rw [ty_non]; decide)
  | bl b => exact absurd h (by rw [ty_bl]; decide)
  | str l => exact absurd h (by rw [ty_str]; decide)
/-! ### isinstance -/
def rIsD (K : PySem.W.Frag) (T : String) : List V → Hp → VK → Prop := fun xs H Q => ∃ (S : List Addr) (x : V) (d : D), xs = [x, .ty T] ∧ Rv K S H x d ∧ Q (.bl (d.isi T)) H
section
variable {X : Cx} {T : String}
theorem tyx_of {K : PySem.W.Frag} {S : List Addr} {H : Hp} {x : V} {d : D} (r : Rv K S H x d) (t : String) (h : d.ty = some t) : TyX K H x (.type t) := by
  cases r with
  | non => rw [ty_non] at h; cases h; exact .base .non
  | bl b => rw [ty_bl] at h; cases h; exact .base (.bl b)
  | int i => rw [ty_int] at h; cases h; exact .base (.int i)
  | str l hl => rw [ty_str] at h; cases h; exact .base (.str _)
  | lst hs _ _ _ => rw [ty_lst] at h; cases h; exact .base (.lst hs)
  | obj ho _ => rw [ty_obj] at h; cases h
  | tup hs _ _ =>
    rw [ty_tup] at h
    cases h
    rcases hs with (hs | ⟨o, hs⟩) | ⟨o, its, n, e, c, _⟩
    · exact .base (.tup hs)
    · exact .fTuple hs
    · exact .kTuple e c
theorem kit_str : ∀ t : String, t ∈ ["NoneType", "bool", "int", "str", "tuple", "list"] → kitB t "str" = some (t == "str") := by decide +kernel
theorem kit_int : ∀ t : String, t ∈ ["NoneType", "bool", "int", "str", "tuple", "list"] → kitB t "int" = some (t == "bool" || t == "int") := by decide +kernel
theorem kit_bool : ∀ t : String, t ∈ ["NoneType", "bool", "int", "str", "tuple", "list"] → kitB t "bool" = some (t == "bool") := by decide +kernel
theorem kit_tuple : ∀ t : String, t ∈ ["NoneType", "bool", "int", "str", "tuple", "list"] → kitB t "tuple" = some (t == "tuple") := by decide +kernel
theorem kit_list : ∀ t : String, t ∈ ["NoneType", "bool", "int", "str", "tuple", "list"] → kitB t "list" = some (t == "list") := by decide +kernel
theorem kit_d {d : D} {t : String} (h : d.ty = some t) (hT : T ∈ ["str", "int", "bool", "tuple", "list"]) : kitB t T = some (d.isi T) := by
  simp only [List.mem_cons, List.not_mem_nil, or_false] at hT
  have go : ∀ u, d.ty = some u → u = t := fun u e => by rw [h] at e; exact (Option.some.inj e).symm
  rcases hT with rfl | rfl | rfl | rfl | rfl <;> cases d
  all_goals first
    | (have q := go _ ty_non; subst q; first | exact kit_str _ (by decide) | exact kit_int _ (by decide) | exact kit_bool _ (by decide) | exact kit_tuple _ (by decide) | exact kit_list _ (by decide))
    | (have q := go _ ty_bl; subst q; first | exact kit_str _ (by decide) | exact kit_int _ (by decide) | exact kit_bool _ (by decide) | exact kit_tuple _ (by decide) | exact kit_list _ (by decide))
    | (have q := go _ ty_int; subst q; first | exact kit_str _ (by decide) | exact kit_int _ (by decide) | exact kit_bool _ (by decide) | exact kit_tuple _ (by decide) | exact kit_list _ (by decide))
    | (have q := go _ ty_str; subst q; first | exact kit_str _ (by decide) | exact kit_int _ (by decide) | exact kit_bool _ (by decide) | exact kit_tuple _ (by decide) | exact kit_list _ (by decide))
    | (have q := go _ ty_tup; subst q; first | exact kit_str _ (by decide) | exact kit_int _ (by decide) | exact kit_bool _ (by decide) | exact kit_tuple _ (by decide) | exact kit_list _ (by decide))
    | (have q := go _ ty_lst; subst q; first | exact kit_str _ (by decide) | exact kit_int _ (by decide) | exact kit_bool _ (by decide) | exact kit_tuple _ (by decide) | exact kit_list _ (by decide))
    | (rw [ty_obj] at h; cases h)
theorem D.has_ty (d : D) : (∃ t, d.ty = some t) ∨ ∃ C, d = .obj C := by
  cases d with
  | obj C => exact .inr ⟨C, rfl⟩
  | non => exact .inl ⟨_, ty_non⟩
  | bl b => exact .inl ⟨_, ty_bl⟩
  | int i => exact .inl ⟨_, ty_int⟩
  | str l => exact .inl ⟨_, ty_str⟩
  | tup ds => exact .inl ⟨_, ty_tup⟩
  | lst ds => exact .inl ⟨_, ty_lst⟩
theorem call_isiD (hT : T ∈ ["str", "int", "bool", "tuple", "list"]) : CallR X (.builtin "isinstance") (rIsD X.K T) := by
  intro pins s σ H xs us Q I r h
  obtain ⟨S, x, d, rfl, rv, q⟩ := h
  rcases d.has_ty with ⟨t, ht⟩ | ⟨C, rfl⟩
  · exact call_isi pins s σ H _ us Q I r ⟨x, .ty T, _, _, d.isi T, rfl, .ty T, tyx_of rv t ht, kit_ty (kit_d ht hT), q⟩
  · cases rv with
    | obj ho ok =>
      rename_i a
      obtain ⟨u1, u2, rfl, r1, r2⟩ := vals2 r
      cases r1
      cases (show u2 = Value.type T from r2)
      obtain ⟨⟨oe, vs, e1, ⟨e2, e3⟩, e4, _⟩, _⟩ := I.hok _ _ ho
      have J : PySem.W.InstAt s.heap a oe C none := by
        obtain ⟨oc, od, oda, osl⟩ := oe
        dsimp only at e2 e3 e4
        subst e2 e3 e4
        exact ⟨e1, rfl, rfl, trivial⟩
      have kit : PySem.W.kitOne X.K (.ref C) (.type T) = some ((D.obj C).isi T) := by
        simp only [List.mem_cons, List.not_mem_nil, or_false] at hT
        rcases hT with rfl | rfl | rfl | rfl | rfl
        · exact ok.is_str
        · exact ok.is_int
        · exact ok.is_bool
        · exact ok.is_tuple
        · exact ok.is_list
      exact PySem.W.kia_one (PySem.W.handS_kitx_exc ok.exc.hg ok.exc.hk ok.exc.hs ok.exc.hd ok.exc.ha ok.exc.hn ok.exc.ht ok.exc.hm) I.kIn J kit (fun z => nomatch z) fun tk => ⟨.bl ((D.obj C).isi T), H, I.kept (t' := tk) fun _ _ z => z, rfl, q⟩
end
theorem call_isiDK {X : Cx} {T : String} {K : PySem.W.Frag} (hK : X.K = K) (hT : T ∈ ["str", "int", "bool", "tuple", "list"]) : CallR X (.builtin "isinstance") (rIsD K T) := by
  subst hK
  exact call_isiD hT
/-! ### t[::-1] -/
section
variable {prog : Program} {w : World} {A : Around} {E : Value → Shared → Prop} {s : Shared}
open HT
theorem sliceApplied_rev {sl : Addr} {vl vu vs : Value} {n : Nat} {Q : Int × Int × Nat → Shared → Prop} (hs : s.heap.IsSliceOf sl vl vu vs) (pl : IsPart vl none) (pu : IsPart vu none) (ps : IsPart vs (some (-1)))
    (h : Q ((n : Int) - 1, -1, n) s) : wpAny (model prog w) A (Builtin.Slice.sliceApplied (.ref sl) (pure (n : Int))) Q E s := by
  obtain ⟨os, hos, hcs, hds⟩ := id hs
  unfold Builtin.Slice.sliceApplied Builtin.Slice.sliceFields
  refine wpAny_bind (wpAny_bind (wpAny_field hos hds (x := vl) rfl (wpAny_bind (wpAny_field hos hds (x := vu) rfl (wpAny_bind (wpAny_field hos hds (x := vs) rfl (wpAny_pure ?_)))))))
  refine wpAny_bind (slicePart_ ps ?_)
  show wpAny _ _ (if ((-1 : Int) == 0) = true then _ else _) _ _ s
  rw [if_neg (by decide)]
  refine wpAny_bind (slicePart_ pl (wpAny_bind (slicePart_ pu (wpAny_bind (wpAny_pure ?_)))))
  show wpAny _ _ (pure ((n : Int) - 1, (-1 : Int), Builtin.Slice.slicePlaces ((n : Int) - 1) (-1) (-1))) _ _ s
  have e : Builtin.Slice.slicePlaces ((n : Int) - 1) (-1) (-1) = n := by
    unfold Builtin.Slice.slicePlaces
    rw [if_neg (by decide)]
    by_cases c : (n : Int) - 1 > -1
    · rw [if_pos c, show (- -1 : Int) = 1 by decide, Int.ediv_one]
      omega
    · rw [if_neg c]
      omega
  rw [e]
  exact wpAny_pure h
theorem pick_rev (xs : Array Value) : ((List.range xs.size).filterMap fun (k : Nat) => xs[((xs.size : Int) - 1 + (k : Int) * (-1)).toNat]?).toArray = xs.toList.reverse.toArray := by
  have e : (fun (k : Nat) => xs[((xs.size : Int) - 1 + (k : Int) * (-1)).toNat]?) = (fun k => xs[xs.size - 1 - k]?) := by
    funext k
    have : ((xs.size : Int) - 1 + (k : Int) * (-1)).toNat = xs.size - 1 - k := by omega
    rw [this]
  rw [e]
  have e2 : (fun k => xs[xs.size - 1 - k]?) = (fun k => xs[k]?) ∘ fun k => xs.size - 1 - k := rfl
  rw [e2, ← List.filterMap_map, PySem.W.krv_range, List.filterMap_reverse, PySem.W.krv_all]
theorem getItem_tuple_rev {t sl : Addr} {items : Array Value} {vl vu vs : Value} {Q : Value → Shared → Prop} (ht : IsTup s.heap t items) (hs : s.heap.IsSliceOf sl vl vu vs) (pl : IsPart vl none) (pu : IsPart vu none) (ps : IsPart vs (some (-1)))
    (h : Q (.ref s.heap.objs.size) { s with heap := s.heap.push { cls := .type "tuple", data := .seq items.toList.reverse.toArray } })
    (hsz : items.size ≤ sizeLine) : wpAny (model prog w) A (getItem (.ref t) (.ref sl)) Q E s := by
  have htake : sizeOk (.seq items.toList.reverse.toArray) := by
    show items.toList.reverse.toArray.size ≤ sizeLine
    rw [List.size_toArray, List.length_reverse, Array.length_toList]
    exact hsz
  obtain ⟨os, hos, hcs, hds⟩ := id hs
  have hTs : s.TypeIs (.ref sl) "slice" := ⟨os, hos, hcs⟩
  unfold getItem
  try with_reducible refine wpAny_holding ?_
  first | refine wpAny_bind (wpAny_pure ?_) | skip
  refine wpAny_bind (wpAny_sequenceKey ht.typeIs (by decide) ?_)
  refine wpAny_bind (wpAny_callSpecial?_slot (name := Str.ofString "__getitem__") ht.typeIs PyProof.Rows.slot_tuple_getitem
    (wpAny_call_entry PyProof.Rows.slot_tuple_getitem ht.typeIs entry_tuple_getitem ?_ (args_tuple_getitem _ _)))
  show wpAny _ _ (Builtin.Tuple.tupleItemsOf (.ref t) >>= _) _ _ s
  refine wpAny_bind (tupleItemsOf_ ht ?_)
  refine wpAny_bind (wpAny_typeOf hTs ?_)
  rw [if_pos (by decide)]
  refine wpAny_bind (sliceApplied_rev hs pl pu ps ?_)
  have hno : ¬ ((((items.size : Int) - 1) == 0 && (-1 : Int) == 1 && items.size == items.size) = true) := by
    intro q
    rw [Bool.and_eq_true, Bool.and_eq_true] at q
    exact absurd q.1.2 (by decide)
  show wpAny _ _ (if (((items.size : Int) - 1) == 0 && (-1 : Int) == 1 && items.size == items.size) = true then _ else _) _ _ s
  rw [if_neg hno, pick_rev]
  first
    | exact wpAny_bind (m := Builtin.Tuple.tupleExact _) (wpAny_newObj_type (wpAny_pure ⟨_, rfl, wpAny_pure h⟩) htake)
    | exact wpAny_bind (m := Builtin.Tuple.tupleExact _) (wpAny_newObj_type (wpAny_bind (wpAny_pure (wpAny_pure ⟨_, rfl, wpAny_pure h⟩))) htake)
    | exact wpAny_bind (wpAny_bind (m := Builtin.Tuple.tupleExact _) (wpAny_newObj_type (wpAny_pure (wpAny_pure ⟨_, rfl, wpAny_pure h⟩)) htake))
    | exact wpAny_bind (wpAny_bind (m := Builtin.Tuple.tupleExact _) (wpAny_newObj_type (wpAny_pure ⟨_, rfl, wpAny_pure h⟩) htake))
end
section
variable {X : Cx}
def tRevT (K : PySem.W.Frag) (te : TE) : TE := fun σ H Q => te σ H fun x H1 => ∃ a xs, x = .ref a ∧ SqT K H1 a xs ∧ ∀ p, H1 p = none → Q (.ref p) (upd H1 p (.tup xs.reverse))
theorem pe_revT {e : Expr} {te : TE} {k : Nat} {p1 p2 p3 pos : Pos} (he : PE X e te) : PE X (.Subscript e (.Slice none none (some (.UnaryOp .USub (.Constant (.int 1) k p1) p2)) p3) pos) (tRevT X.K te) := by
  refine ⟨fun pins s σ H Q I h => ?_⟩
  refine Subscript_ (thn (he.run pins s σ H _ I h) fun v s1 ⟨x, H1, I1, r1, q1⟩ => ?_)
  obtain ⟨a, xs, ex, hx, q⟩ := q1
  subst ex
  cases r1
  have hst : PO X (some (.UnaryOp .USub (.Constant (.int 1) k p1) p2)) (tPart (tUn (rU fun i => .int (-i)) (tC (.int 1)))) := po_some (pe_un un_neg pe_int)
  refine wpAny_Slice (thn (po_none.run pins s1 σ H1 (fun o H2 => o = none ∧ H2 = H1) I1 ⟨rfl, rfl⟩) fun vl s2 ⟨l, H2, I2, pl, el, e2⟩ => ?_)
  subst el e2
  refine thn (po_none.run pins s2 σ H2 (fun o H3 => o = none ∧ H3 = H2) I2 ⟨rfl, rfl⟩) fun vu s3 ⟨u, H3, I3, pu, eu, e3⟩ => ?_
  subst eu e3
  refine thn (hst.run pins s3 σ H3 (fun o H4 => o = some (-1) ∧ H4 = H3) I3 ⟨1, rfl, -1, rfl, rfl, rfl⟩) fun vs s4 ⟨o, H4, I4, ps, eo, e4⟩ => ?_
  subst eo e4
  have I5 : Inv X pins σ H4 { s4 with heap := s4.heap.push { cls := .type "slice", data := .fields #[vl, vu, vs] } } := I4.kept (t' := s4.toks) fun b ob q => Heap.get?_push_of_some _ q
  obtain ⟨its, r, ht, hz⟩ := I5.tuple hx
  have hlen := r.length
  show wpAny (model X.prog X.w) X.A (subscriptTail e (.Slice none none (some (.UnaryOp .USub (.Constant (.int 1) k p1) p2)) p3) (.ref a) (.ref s4.heap.objs.size)) (EP X pins σ Q) X.xe { s4 with heap := s4.heap.push { cls := .type "slice", data := .fields #[vl, vu, vs] } }
  refine tail_any (ops := [.ref a, .ref s4.heap.objs.size]) ht.typeIs (PyProof.Rows.slot_tuple_getitem.lookup) ?_ (by with_unfolding_all rfl)
  refine getItem_tuple_rev ht (Heap.IsSliceOf.new _ vl vu vs) pl pu ps ?_ (by rw [List.size_toArray]; omega)
  refine ⟨.ref _, _, I5.laid (t' := s4.toks) (o := .tup xs.reverse) (fun b ob q => Heap.get?_push_of_some _ q) (Nat.le_refl _) ?_, rfl, q _ (I5.hok.fresh (Nat.le_refl _))⟩
  exact ⟨by rw [List.length_reverse]; exact hz, _, r.reverse, IsTup.new _ _⟩
end
/-! ### expressions that build values -/
def EvD (K : PySem.W.Frag) (S : List Addr) (te : TE) (σ : L2.St) (H : Hp) (d : D) : Prop := ∀ H1, Stp [] H H1 → ∀ Q : VK, (∀ v H2, Stp [] H1 H2 → Rv K S H2 v d → Q v H2) → te σ H1 Q
def EvDA (K : PySem.W.Frag) (S : List Addr) (ta : TA) (σ : L2.St) (H : Hp) (ds : List D) : Prop := ∀ H1, Stp [] H H1 → ∀ Q : List V → Hp → Prop, (∀ vs H2, Stp [] H1 H2 → RvL K S H2 vs ds → Q vs H2) → ta σ H1 Q
section
variable {K : PySem.W.Frag} {S : List Addr} {te : TE} {ta : TA} {σ : L2.St} {H : Hp} {d : D} {ds : List D}
theorem EvD.bl {b : Bool} : EvD K S (tC (.bl b)) σ H (.bl b) := fun H1 _ _ k => k _ H1 (Stp.refl _ _) (.bl b)
theorem EvD.int {i : Int} : EvD K S (tC (.int i)) σ H (.int i) := fun H1 _ _ k => k _ H1 (Stp.refl _ _) (.int i)
theorem EvD.non : EvD K S (tC .non) σ H .non := fun H1 _ _ k => k _ H1 (Stp.refl _ _) .non
theorem EvD.str {s : Str} (h : s.cps.toList.length ≤ 100000 := by decide +kernel) : EvD K S (tC (.str s)) σ H (wd s) := fun H1 _ _ k => k _ H1 (Stp.refl _ _) (Rv.lit s h)
theorem EvD.var {i : Nat} {v : V} (r : Rv K S H v d) (e : σ[i]? = some (some v) := by rfl) : EvD K S (tVar i) σ H d := fun H1 s _ k => ⟨v, e, k v H1 (Stp.refl _ _) (r.up s)⟩
theorem EvDA.nil : EvDA K S tNil σ H [] := fun H1 _ _ k => k [] H1 (Stp.refl _ _) .nil
theorem EvDA.cons (h : EvD K S te σ H d) (g : EvDA K S ta σ H ds) : EvDA K S (tCons te ta) σ H (d :: ds) := fun H1 s Q k =>
  h H1 s _ fun v H2 s2 r => g H2 (s.trans s2) _ fun vs H3 s3 rs => k (v :: vs) H3 (s2.trans s3) (.cons (r.up s3) rs)
theorem EvD.tup (h : EvDA K S ta σ H ds) (hl : ds.length ≤ 1000) : EvD K S (tTup ta) σ H (.tup ds) := fun H1 s Q k =>
  h H1 s _ fun vs H2 s2 rs => ⟨sz (by rw [rs.len]; omega), fun p np => k _ _ (s2.new' np) (Rv.newT np rs (by omega))⟩
theorem EvD.lst (L : Lsts H S) (h : EvDA K S ta σ H ds) (hl : ds.length ≤ 1000) : EvD K S (tLst ta) σ H (.lst ds) := fun H1 s Q k =>
  h H1 s _ fun vs H2 s2 rs => ⟨sz (by rw [rs.len]; omega), fun p np => k _ _ (s2.new' np) (Rv.newL (Pv.Lsts.up L (s.trans s2)) np rs (by omega))⟩
theorem EvD.exc {C : Addr} (ok : OkC K C) (h : EvD K S te σ H d) : EvD K S (fun σ H Q => te σ H fun _ H1 => ∀ a, H1 a = none → Q (.ref a) (upd H1 a (ExO (.ref C) a))) σ H (.obj C) := fun H1 s Q k =>
  h H1 s _ fun v H2 s2 _ => fun a na => k _ _ (s2.new' na) (.obj upd_same ok)
theorem EvD.pow {i j : Int} (h : CPow i j) : EvD K S (tOp (rI CPow fun i j => .int (i ^ j.toNat)) (tC (.int i)) (tC (.int j))) σ H (.int (i ^ j.toNat)) := fun H1 s Q k =>
  ⟨i, j, rfl, rfl, h, k _ _ (Stp.refl _ _) (.int _)⟩
theorem EvD.neg {i : Int} : EvD K S (tUn (rU fun i => .int (-i)) (tC (.int i))) σ H (.int (-i)) := fun H1 s Q k => ⟨i, rfl, k _ _ (Stp.refl _ _) (.int _)⟩
theorem EvDA.use (h : EvDA K S ta σ H ds) {Q : List V → Hp → Prop} (k : ∀ vs H2, Stp [] H H2 → RvL K S H2 vs ds → Q vs H2) : ta σ H Q := h H (Stp.refl _ _) Q k
theorem EvD.use (h : EvD K S te σ H d) {Q : VK} (k : ∀ v H2, Stp [] H H2 → Rv K S H2 v d → Q v H2) : te σ H Q := h H (Stp.refl _ _) Q k
theorem EvDA.newl (h : EvDA K S ta σ H ds) (hl : ds.length ≤ 1000) {Q : VK} (k : ∀ p vs H2, Stp [] H H2 → H p = none → H2 p = some (.lst vs) → RvL K S H2 vs ds → Q (.ref p) H2) : tLst ta σ H Q :=
  h.use fun vs H2 s rs => ⟨sz (by rw [rs.len]; omega), fun p np => k p vs _ (s.new' np) (s.fresh (fun m => nomatch m) np) upd_same (rs.up (Stp.new np []))⟩
end
/-! ### lists of truths, compared -/
theorem dp_bools {K : PySem.W.Frag} {H : Hp} : ∀ (bs : List Bool), DpAll K H (bs.map V.bl) (bs.map PyData.bool)
  | [] => .nil
  | b :: bs => .cons (.bl b) (dp_bools bs)
theorem lay_bools : ∀ (bs : List Bool), PyData.canLayAll0 (bs.map PyData.bool) = true
  | [] => rfl
  | b :: bs => by
    show (PyData.canLay0 (.bool b) && PyData.canLayAll0 (bs.map PyData.bool)) = true
    rw [lay_bools bs]
    rfl
theorem dep_bools : ∀ (bs : List Bool), PyData.depthAll (bs.map PyData.bool) = 0
  | [] => rfl
  | b :: bs => by
    show max 0 (PyData.depthAll (bs.map PyData.bool)) = 0
    rw [dep_bools bs]
    rfl
theorem shaped_bools (bs : List Bool) : SeqAt.shaped (.list (bs.map PyData.bool)) = true := by
  unfold SeqAt.shaped
  rw [show PyData.canLay0 (.list (bs.map PyData.bool)) = true from lay_bools bs]
  rw [show PyData.depth (.list (bs.map PyData.bool)) = 0 + 1 by show PyData.depthAll _ + 1 = _; rw [dep_bools]]
  rfl
/-- the same list of truths twice: != says no -/
theorem ne_bools {K : PySem.W.Frag} {H : Hp} {p q : Addr} {bs : List Bool} {Q : VK} (hp : SqL K H p (bs.map V.bl)) (hq : SqL K H q (bs.map V.bl)) (k : Q (.bl false) H) : rNeD K (.ref p) (.ref q) H Q := by
  refine ⟨.list (bs.map PyData.bool), .list (bs.map PyData.bool), .lst hp (dp_bools bs), .lst hq (dp_bools bs), shaped_bools bs, shaped_bools bs, ?_⟩
  rw [SeqAt.eqv_refl _ (show PyData.canLay0 (.list (bs.map PyData.bool)) = true from lay_bools bs)]
  exact k
end Pv
namespace Pv
open PySem PySem.Spec PyProof.Rows L2 Pg
/-- the ways of an expression, joined by what they leave -/
theorem te_join {te : TE} {σ : L2.St} {H : Hp} {Q : VK} (I : V → Hp → Prop) (h : (∀ v H', I v H' → Q v H') → te σ H Q) (k : ∀ v H', I v H' → Q v H') : te σ H Q := h k
/-- xs + ys, new lists of values -/
theorem cat_use {K : PySem.W.Frag} {S : List Addr} {H : Hp} {a b : Addr} {xs ys : List V} {ds es : List D} {Q : VK} (ha : H a = some (.lst xs)) (hb : H b = some (.lst ys)) (ra : RvL K S H xs ds) (rb : RvL K S H ys es) (hl : ds.length + es.length ≤ 100000)
    (k : ∀ p, H p = none → ∀ H' zs, Stp [] H H' → H' p = some (.lst zs) → RvL K S H' zs (ds ++ es) → Q (.ref p) H') : rCat (.ref a) (.ref b) H Q :=
  ⟨a, b, xs, ys, rfl, rfl, ha, hb, by rw [ra.len, rb.len]; exact sz hl, fun p np => k p np _ _ (Stp.new np _) upd_same ((ra.app rb).up (Stp.new np _))⟩
/-- xs + ys, also of a list that is locked -/
def rCatS (K : PySem.W.Frag) : R2 := fun x y H Q => ∃ l b xs zs, x = .ref l ∧ y = .ref b ∧ SqL K H l xs ∧ SqL K H b zs ∧ xs.length + zs.length ≤ sizeLine ∧ ∀ p, H p = none → Q (.ref p) (upd H p (.lst (xs ++ zs)))
theorem op_catS {X : Cx} : OpR X (binaryOp .Add) (rCatS X.K) := by
  intro pins s σ H x y v u Q I rx ry h
  obtain ⟨l, b, xs, zs, rfl, rfl, hH, hB, hz, q⟩ := h
  cases rx
  cases ry
  obtain ⟨its, r, pl, _⟩ := I.list hH
  obtain ⟨its2, r2, pl2, _⟩ := I.list hB
  have hl := r.length
  have hl2 := r2.length
  have ea : its.toArray ++ its2.toArray = (its ++ its2).toArray := by simp
  obtain ⟨⟨cls, dd, data, sl⟩, ho, hc, n, hd⟩ := pl.isList
  obtain ⟨⟨cls2, dd2, data2, sl2⟩, ho2, hc2, n2, hd2⟩ := pl2.isList
  simp only at hc hd hc2 hd2
  subst hc hd hc2 hd2
  refine concat_meets ⟨_, ho, rfl⟩ ⟨_, ho2, rfl⟩ noFill_list_add seq_list_add PySem.F.slot_list_add PySem.F.entry_list_add (PySem.F.args_list_add_2 _ _) (list_addW l b its.toArray its2.toArray n n2 dd dd2 sl sl2 (by rw [List.size_toArray, List.size_toArray]; omega)) ⟨ho, ho2, ?_⟩
  rw [ea]
  exact ⟨.ref _, _, I.lnew (t' := s.toks) (r.append r2) (by rw [List.length_append]; omega), rfl, q _ I.fresh⟩
theorem out_of {b p : Addr} {H : Hp} {o : HO} (h : H b = some o) (np : H p = none) : p ∉ [b] := fun m => by
  rw [List.mem_singleton.mp m, h] at np
  cases np
end Pv
namespace Pv
open PySem PySem.Spec PyProof.Rows L2 Pg
section
variable {K : PySem.W.Frag} {S : List Addr} {te : TE} {ta : TA} {σ : L2.St} {H : Hp} {d : D} {ds es : List D}
theorem catT {a b : Addr} {xs ys : List V} {Q : VK} (ha : SqT K H a xs) (hb : SqT K H b ys) (ra : RvL K S H xs ds) (rb : RvL K S H ys es) (hl : ds.length + es.length ≤ 100000)
    (k : ∀ p zs H', Stp [] H H' → SqT K H' p zs → RvL K S H' zs (ds ++ es) → Q (.ref p) H') : rCatA K (.ref a) (.ref b) H Q :=
  catA_use ha hb (by rw [ra.len, rb.len]; exact hl) fun p H' s h => k p _ H' s h ((ra.app rb).up s)
theorem upT {a : Addr} {xs : List V} {n : Nat} {Q : VK} (ha : SqT K H a xs) (ra : RvL K S H xs ds) (k : ∀ p zs H', Stp [] H H' → SqT K H' p zs → RvL K S H' zs (ds.take n) → Q (.ref p) H') : rSlA K (.ref a) none (some (n : Int)) H Q :=
  slA_use ha fun p H' s h => k p _ H' s (by rwa [cut_upto] at h) ((ra.take n).up s)
theorem fromT {a : Addr} {xs : List V} {n : Nat} {Q : VK} (ha : SqT K H a xs) (ra : RvL K S H xs ds) (k : ∀ p zs H', Stp [] H H' → SqT K H' p zs → RvL K S H' zs (ds.drop n) → Q (.ref p) H') : rSlA K (.ref a) (some (n : Int)) none H Q :=
  slA_use ha fun p H' s h => k p _ H' s (by rwa [cut_from] at h) ((ra.drop n).up s)
theorem fromT1 {a : Addr} {xs : List V} {n : Nat} {Q : VK} (ha : SqT K H a xs) (ra : RvL K S H xs ds) (k : ∀ p zs H', Stp [] H H' → SqT K H' p zs → RvL K S H' zs (ds.drop (n + 1)) → Q (.ref p) H') : rSlA K (.ref a) (some ((n : Int) + 1)) none H Q :=
  Pv.fromT (n := n + 1) ha ra k
/-! more expressions -/
theorem Rv.tupE {a : V} (r : Rv K S H a (.tup ds)) : ∃ p vs, a = .ref p ∧ SqT K H p vs ∧ vs.length ≤ 100000 ∧ RvL K S H vs ds := by
  cases r with
  | tup h n r => exact ⟨_, _, rfl, h, n, r⟩
theorem EvD.list (L : Lsts H S) (h : EvD K S te σ H (.tup ds)) : EvD K S (tCB (fun xs H Q => ∃ p ys, xs = [.ref p] ∧ (SqL K H p ys ∨ SqT K H p ys) ∧ ∀ l, H l = none → Q (.ref l) (upd H l (.lst ys))) (tCons te tNil)) σ H (.lst ds) := fun H1 s Q k =>
  h H1 s _ fun v H2 s2 r => by
    obtain ⟨p, vs, rfl, hs, n, rl⟩ := r.tupE
    exact ⟨_, _, rfl, .inr hs, fun l nl => k _ _ (s2.new' nl) (Rv.newL (Pg.Lsts.stp L (s.trans s2)) nl rl (by rw [← rl.len]; exact n))⟩
theorem EvD.upT {n : Nat} (h : EvD K S te σ H (.tup ds)) : EvD K S (tSl (rSlA K) te tNoPart (tPart (tC (.int (n : Int))))) σ H (.tup (ds.take n)) := fun H1 s Q k =>
  h H1 s _ fun v H2 s2 r => by
    obtain ⟨p, vs, rfl, hs, n, rl⟩ := r.tupE
    exact ⟨_, rfl, Pv.upT hs rl fun p zs H' s3 h2 r2 => k _ _ (s2.trans s3) (.tup h2 (by rw [r2.len, List.length_take, ← rl.len]; omega) r2)⟩
theorem EvD.fromT {n : Nat} (h : EvD K S te σ H (.tup ds)) : EvD K S (tSl (rSlA K) te (tPart (tC (.int (n : Int)))) tNoPart) σ H (.tup (ds.drop n)) := fun H1 s Q k =>
  h H1 s _ fun v H2 s2 r => by
    obtain ⟨p, vs, rfl, hs, n, rl⟩ := r.tupE
    exact ⟨_, rfl, Pv.fromT hs rl fun p zs H' s3 h2 r2 => k _ _ (s2.trans s3) (.tup h2 (by rw [r2.len, List.length_drop, ← rl.len]; omega) r2)⟩
theorem EvD.catT {tb : TE} (h : EvD K S te σ H (.tup ds)) (g : EvD K S tb σ H (.tup es)) (hl : ds.length + es.length ≤ 100000) : EvD K S (tOp (rCatA K) te tb) σ H (.tup (ds ++ es)) := fun H1 s Q k =>
  h H1 s _ fun v H2 s2 r => g H2 (s.trans s2) _ fun u H3 s3 q => by
    obtain ⟨p, vs, rfl, hs, n, rl⟩ := (r.up s3).tupE
    obtain ⟨p2, vs2, rfl, hs2, n2, rl2⟩ := q.tupE
    exact Pv.catT hs hs2 rl rl2 hl fun p zs H' s4 h2 r2 => k _ _ ((s2.trans s3).trans s4) (.tup h2 (by rw [r2.len, List.length_append]; exact hl) r2)
theorem EvD.ixT {i : Nat} (h : EvD K S te σ H (.tup ds)) (e : ds[i]? = some d) : EvD K S (tOp (rIxT K) te (tC (.int (i : Int)))) σ H d := fun H1 s Q k =>
  h H1 s _ fun v H2 s2 r => by
    obtain ⟨p, vs, rfl, hs, n, rl⟩ := r.tupE
    have hi : i < vs.length := by
      rw [rl.len]
      exact (List.getElem?_eq_some_iff.mp e).1
    obtain ⟨d', e', r'⟩ := rl.get (List.getElem?_eq_getElem hi)
    rw [e] at e'
    cases e'
    exact ⟨p, vs, _, _, rfl, rfl, hs, atI_nat (List.getElem?_eq_getElem hi), k _ _ s2 r'⟩
theorem EvD.revT (h : EvD K S te σ H (.tup ds)) : EvD K S (tRevT K te) σ H (.tup ds.reverse) := fun H1 s Q k =>
  h H1 s _ fun v H2 s2 r => by
    obtain ⟨p, vs, rfl, hs, n, rl⟩ := r.tupE
    exact ⟨p, vs, rfl, hs, fun p np => k _ _ (s2.new' np) (Rv.newT np rl.rev (by rw [List.length_reverse, ← rl.len]; exact n))⟩
theorem op_newl {r : R2} {tb : TE} {Q : VK} (h : EvDA K S ta σ H ds) (hl : ds.length ≤ 1000) (k : ∀ p vs H2, Stp [] H H2 → H p = none → H2 p = some (.lst vs) → RvL K S H2 vs ds → tb σ H2 fun y H3 => r (.ref p) y H3 Q) : tOp r (tLst ta) tb σ H Q := h.newl hl k
theorem EvDA.one (h : EvD K S te σ H d) : EvDA K S (tCons te tNil) σ H [d] := .cons h .nil
end
end Pv
namespace Pv
open PySem PySem.Spec PyProof.Rows L2 Pg
/-! ### xs == [], xs any values -/
def rEqNil (K : PySem.W.Frag) : R2 := fun x y H Q => ∃ a b xs, x = .ref a ∧ y = .ref b ∧ a ≠ b ∧ SqL K H a xs ∧ SqL K H b [] ∧ Q (.bl xs.isEmpty) H
def rNeNil (K : PySem.W.Frag) : R2 := fun x y H Q => ∃ a b xs, x = .ref a ∧ y = .ref b ∧ a ≠ b ∧ SqL K H a xs ∧ SqL K H b [] ∧ Q (.bl (!xs.isEmpty)) H
theorem op_eqNil {X : Cx} (hu : X.A.units + 64 < cLine) : OpR X (compareOp .Eq) (rEqNil X.K) := by
  intro pins s σ H x y v u Q I rx ry h
  obtain ⟨a, b, xs, rfl, rfl, ne, hH, hB, q⟩ := h
  cases rx
  cases ry
  obtain ⟨its, r, pl, _⟩ := I.list hH
  obtain ⟨its2, r2, pl2, _⟩ := I.list hB
  cases r2
  cases xs with
  | nil =>
    cases r
    refine SeqAt.RcAt.lists (e := fun _ => true) pl.isList pl2.isList rfl (by omega) (fun j h1 h2 => absurd h1 (by simp)) _ _ _ _ ?_
    exact ⟨.bl true, H, I, rfl, q⟩
  | cons x xs =>
    cases r with
    | cons r1 r =>
      refine SeqAt.RcAt.lists_lengths pl.isList pl2.isList (by simp) (by omega) _ _ _ _ ?_
      exact ⟨.bl false, H, I, rfl, q⟩
theorem op_neNil {X : Cx} (hu : X.A.units + 64 < cLine) : OpR X (compareOp .NotEq) (rNeNil X.K) := by
  intro pins s σ H x y v u Q I rx ry h
  obtain ⟨a, b, xs, rfl, rfl, ne, hH, hB, q⟩ := h
  cases rx
  cases ry
  obtain ⟨its, r, pl, _⟩ := I.list hH
  obtain ⟨its2, r2, pl2, _⟩ := I.list hB
  cases r2
  cases xs with
  | nil =>
    cases r
    refine SeqAt.RcNeAt.lists (e := fun _ => true) pl.isList pl2.isList rfl (by omega) (fun j h1 h2 => absurd h1 (by simp)) _ _ _ _ ?_
    exact ⟨.bl false, H, I, rfl, q⟩
  | cons x xs =>
    cases r with
    | cons r1 r =>
      refine SeqAt.RcNeAt.lists_lengths pl.isList pl2.isList (by simp) (by omega) _ _ _ _ ?_
      exact ⟨.bl true, H, I, rfl, q⟩
/-- one value told twice -/
theorem eq_rel {v : V} {d : D} {K : PySem.W.Frag} {S : List Addr} {H : Hp} {u u' : Value} (h : Rv K S H v d) (r : RelV v u) (r' : RelV v u') (A : Around) (s : Shared) : SeqAt.EqAt A s u u' true := by
  cases h with
  | non => cases r; cases r'; exact SeqAt.EqAt.same _
  | bl b => cases r; cases r'; exact SeqAt.EqAt.same _
  | int i =>
    obtain ⟨t, rfl⟩ := r
    obtain ⟨t', rfl⟩ := r'
    have := (MeetsSeq.EqGives.int i i t t').at A s
    rwa [show (i == i) = true from beq_self_eq_true i] at this
  | str l hl =>
    obtain ⟨t, rfl⟩ := r
    obtain ⟨t', rfl⟩ := r'
    have := (SeqRoads2.EqGives.str (tx l) (tx l) t t').at A s
    rwa [show ((tx l).cps.toList == (tx l).cps.toList) = true from beq_self_eq_true _] at this
  | tup _ _ _ => cases r; cases r'; exact SeqAt.EqAt.same _
  | lst _ _ _ _ => cases r; cases r'; exact SeqAt.EqAt.same _
  | obj _ _ => cases r; cases r'; exact SeqAt.EqAt.same _
theorem vals_at : ∀ {vs : List V} {us us' : List Value} {ds : List D} {K : PySem.W.Frag} {S : List Addr} {H : Hp}, RvL K S H vs ds → Vals vs us → Vals vs us' → ∀ (A : Around) (s : Shared) (j : Nat) (h1 : j < us.length) (h2 : j < us'.length), SeqAt.EqAt A s us[j] us'[j] true
  | _, _, _, _, _, _, _, .nil, .nil, .nil, _, _, _, h1, _ => absurd h1 (Nat.not_lt_zero _)
  | _, _, _, _, _, _, _, .cons h _, .cons r _, .cons r' _, A, s, 0, _, _ => eq_rel h r r' A s
  | _, _, _, _, _, _, _, .cons _ h, .cons _ r, .cons _ r', A, s, j + 1, h1, h2 => vals_at h r r' A s j (Nat.lt_of_succ_lt_succ h1) (Nat.lt_of_succ_lt_succ h2)
/-- xs != ys, both hold the same values -/
def rNeL (K : PySem.W.Frag) : R2 := fun x y H Q => ∃ (S : List Addr) (a b : Addr) (xs : List V) (ds : List D), x = .ref a ∧ y = .ref b ∧ SqL K H a xs ∧ SqL K H b xs ∧ RvL K S H xs ds ∧ Q (.bl false) H
theorem op_neL {X : Cx} (hu : X.A.units + 64 < cLine) : OpR X (compareOp .NotEq) (rNeL X.K) := by
  intro pins s σ H x y v u Q I rx ry h
  obtain ⟨S, a, b, xs, ds, rfl, rfl, hH, hB, rv, q⟩ := h
  cases rx
  cases ry
  obtain ⟨its, r, pl, _⟩ := I.list hH
  obtain ⟨its2, r2, pl2, _⟩ := I.list hB
  have e1 := Vals.length r
  have e2 := Vals.length r2
  refine SeqAt.RcNeAt.lists (e := fun _ => true) pl.isList pl2.isList (by simp; omega) (by omega) (fun j h1 h2 => ?_) _ _ _ _ ?_
  · have := vals_at rv r r2 X.A.in1 s j (by simpa using h1) (by simpa using h2)
    simpa using this
  · refine ⟨.bl _, H, I, rfl, ?_⟩
    rw [show ((List.range its.toArray.size).all fun _ => true) = true from by simp]
    exact q
end Pv
namespace PySem.W
open PySem PySem.Spec PySem.Calls PyProof.Rows Sem
/-- what a class says of == and != : no own ones -/
structure SameC (K : Frag) (D : Addr) : Prop where
  eq : findIn K (.ref D) "__eq__" = some (some (.builtin "object.__eq__"))
  ne : findIn K (.ref D) "__ne__" = some (some (.builtin "object.__ne__"))
  sub : subIn K (.ref D) (.type "object") = some true
section
variable {prog : Program} {w : World} {A : Around} {E : Value → Shared → Prop} {K : Frag} {x D : Addr} {ox : Obj} {h : Heap} {g : Array GenState} {d : Drawn} {t : Nat} {os : OsState}
theorem sp_same {name : Str} {id : String} {args : List Value} {Q : Option Value → Shared → Prop} (LS : Looks (model prog w) h (specialOf (.ref x) name) (some (.builtin id))) (S : PySem.Slot "object" name id)
    (hcall : wpAny (model prog w) A (call (.builtin id) (.ref x :: args)) (fun v => Q (some v)) E ⟨h, g, d, t, os⟩) : wpAny (model prog w) A (callSpecialIfBound? (.ref x) name args) Q E ⟨h, g, d, t, os⟩ := by
  simp only [callSpecialIfBound?, bindSpecialIfBound?]
  refine wpAny_holding (wpAny_bind (wpAny_bind (LS.at ?_)))
  simp only [S.bind]
  refine wpAny_bind (wpAny_askSetting (wpAny_ite ?_))
  have fin : wpAny (model prog w) A (call (.builtin id) ([.ref x] ++ args) >>= fun v => Pure.pure (some v)) Q E ⟨h, g, d, t, os⟩ :=
    wpAny_bind (wpAny_mono hcall (fun v s' h' => wpAny_pure h') fun _ _ h' => h')
  split
  · exact wpAny_bind (wpAny_pure (wpAny_pure fin))
  · exact wpAny_tryCatch (wpAny_bind (wpAny_pure (wpAny_pure fin)))
theorem eq_same (C : SameC K D) (X : K.In h) (I : InstAt h x ox D none) {Q : Option Value → Shared → Prop} (hq : Q (some (.bool true)) ⟨h, g, d, t, os⟩) :
    wpAny (model prog w) A (callSpecialIfBound? (.ref x) "__eq__" [.ref x]) Q E ⟨h, g, d, t, os⟩ := by
  have L0 := I.type (M := model prog w)
  have sub : Looks (model prog w) h (isInstance (.ref x) (.type "object")) true := L0.andThen (looks_subIn X C.sub)
  refine sp_same (L0.andThen (looks_findIn X C.eq)) PySem.F.cmp_object.eq ?_
  refine wpAny_call (codeAny_call_builtin PySem.F.cmp_object.eq.plain PySem.F.cmpEntry_eq ?_)
  exact @check_slot (model prog w) _ _ ⟨h, g, d, t, os⟩ "object.__eq__" "object" "__eq__" (.ref x) [.ref x] [] _ PySem.F.cmpKind_eq PySem.F.cmpSplit_eq sub (PySem.F.cmpArgs_eq _ _) (objEq_entry_same hq)
theorem ne_same (C : SameC K D) (X : K.In h) (I : InstAt h x ox D none) (hu : A.units + 1 < cLine) {Q : Option Value → Shared → Prop} (hq : Q (some (.bool false)) ⟨h, g, d, t, os⟩) :
    wpAny (model prog w) A (callSpecialIfBound? (.ref x) "__ne__" [.ref x]) Q E ⟨h, g, d, t, os⟩ := by
  have L0 := I.type (M := model prog w)
  have sub : Looks (model prog w) h (isInstance (.ref x) (.type "object")) true := L0.andThen (looks_subIn X C.sub)
  refine sp_same (L0.andThen (looks_findIn X C.ne)) PySem.F.cmp_object.ne ?_
  refine wpAny_call (codeAny_call_builtin PySem.F.cmp_object.ne.plain PySem.F.cmpEntry_ne ?_)
  refine @check_slot (model prog w) _ _ ⟨h, g, d, t, os⟩ "object.__ne__" "object" "__ne__" (.ref x) [.ref x] [] _ PySem.F.cmpKind_ne PySem.F.cmpSplit_ne sub (PySem.F.cmpArgs_ne _ _) ?_
  unfold Builtin.«object.__ne__»
  repeat (first | with_reducible refine wpAny_cRoomFor hu ?_ | with_reducible refine eq_same C X I ?_ | wp_step)
  exact hq
theorem compare_ne_same (C : SameC K D) (X : K.In h) (I : InstAt h x ox D none) (hu : A.units + 1 < cLine) {Q : Value → Shared → Prop} (hq : Q (.bool false) ⟨h, g, d, t, os⟩) :
    wpAny (model prog w) A (compareOp .NotEq (.ref x) (.ref x)) Q E ⟨h, g, d, t, os⟩ := by
  have hu0 : A.units < cLine := Nat.lt_of_succ_lt hu
  show wpAny (model prog w) A (richCompare .NotEq (.ref x) (.ref x)) Q E ⟨h, g, d, t, os⟩
  simp only [richCompare, cmpInfo_NotEq, oneThing_ref]
  have L0 := I.type (M := model prog w)
  have tc : ∀ {Q : Option Value → Shared → Prop}, Q (some (.bool false)) ⟨h, g, d, t, os⟩ → wpAny (model prog w) A (tryCompare (.ref x) "__ne__" (.ref x)) Q E ⟨h, g, d, t, os⟩ := fun hq => by
    simp only [tryCompare]
    exact wpAny_bind (ne_same C X I hu (wpAny_pure hq))
  repeat (first | with_reducible refine wpAny_cRoomFor hu0 ?_ | with_reducible refine L0.at ?_ | with_reducible refine tc ?_ | wp_step)
  exact hq
end
end PySem.W
namespace Pv
open PySem PySem.Spec PyProof.Rows L2 Pg
/-- x != x, any value -/
def rNeV (K : PySem.W.Frag) : R2 := fun x y H Q => x = y ∧ ∃ (S : List Addr) (d : D), Rv K S H x d ∧ (∀ C, d = .obj C → PySem.W.SameC K C) ∧ Q (.bl false) H
/-- kept != due: lists of the same values, or one value -/
def rNeK (K : PySem.W.Frag) : R2 := fun x y H Q => rNeL K x y H Q ∨ rNeV K x y H Q
theorem op_neK {X : Cx} (hu : X.A.units + 64 < cLine) : OpR X (compareOp .NotEq) (rNeK X.K) := by
  intro pins s σ H x y v u Q I rx ry h
  rcases h with h | ⟨rfl, S, d, rv, ob, q⟩
  · exact op_neL hu pins s σ H x y v u Q I rx ry h
  · have sc := fun e => op_ne pins s σ H x x v u Q I rx ry ⟨e, by rw [decide_eq_true rfl]; exact q⟩
    cases rv with
    | non => exact sc rfl
    | bl b => exact sc rfl
    | int i => exact sc rfl
    | str l hl => exact sc rfl
    | lst ha hn hl rl => exact op_neL hu pins s σ H _ _ v u Q I rx ry ⟨S, _, _, _, _, rfl, rfl, SqL.of ha, SqL.of ha, rl, q⟩
    | tup hs hl rl =>
      cases rx
      cases ry
      obtain ⟨its, r, pl, _⟩ := I.tuple hs
      refine SeqAt.RcNeAt.tuples (e := fun _ => true) pl pl (by omega) (fun j h1 h2 => SeqAt.EqAt.same _) _ _ _ _ ?_
      refine ⟨.bl _, H, I, rfl, ?_⟩
      have e : ∀ n : Nat, ((List.range n).all fun _ => true) = true := fun n => List.all_eq_true.mpr fun _ _ => rfl
      rw [e]
      simpa using q
    | obj ho ok =>
      rename_i a C
      cases rx
      cases ry
      obtain ⟨⟨oe, vs, e1, ⟨e2, e3⟩, e4, _⟩, _⟩ := I.hok _ _ ho
      have J : PySem.W.InstAt s.heap a oe C none := by
        obtain ⟨oc, od, oda, osl⟩ := oe
        dsimp only at e2 e3 e4
        subst e2 e3 e4
        exact ⟨e1, rfl, rfl, trivial⟩
      obtain ⟨hp, g, d, t, os⟩ := s
      refine PySem.W.compare_ne_same (ob C rfl) I.kIn J (by omega) ⟨.bl false, H, I, rfl, q⟩
end Pv
namespace Pg
open PySem PySem.Spec PyProof.Rows L2 PySem.Froz
/-! ### sets of texts, with what their order leans on -/
/-- the payload D holds the texts l; its table rises, and its order is to be told -/
structure TxR (P : Program) (w : World) (D : SD) (l : List Str) : Prop where
  ok : TxOk P w D l
  all : ∃ us : List Tok, us.length = l.length ∧ D.1.toList.Perm ((l.zip us).map fun p => (hashStr w p.1, Value.str p.1 p.2))
  nd : l.Nodup
  ris : Ris D.2.2.place.toList
  led : w.params.followText "set-order" = true ∨ D.2.2.led = true
section
variable {P : Program} {w : World} {A : Around} {E : Value → Shared → Prop} {s : Shared}
theorem tail_ris {ep : Nat} {xs : Array (Int × Value)} {t : SetTable} {b : Bool} (h : Ris t.place.toList) : Ris (tailTx ep xs t b).2.2.place.toList := by
  unfold tailTx
  by_cases c : (!b && t.tooFull) = true
  · rw [if_pos c]; exact relayAll_ris _ _ _
  · rw [if_neg c]; exact h
theorem tail_led {ep : Nat} {xs : Array (Int × Value)} {t : SetTable} {b : Bool} : (tailTx ep xs t b).2.2.led = t.led := by
  unfold tailTx
  by_cases c : (!b && t.tooFull) = true
  · rw [if_pos c]; exact relayAll_led _ _ _
  · rw [if_neg c]
theorem tail_all {ep : Nat} {xs : Array (Int × Value)} {t : SetTable} {b : Bool} : (tailTx ep xs t b).1.toList.Perm xs.toList := by
  unfold tailTx
  by_cases c : (!b && t.tooFull) = true
  · rw [if_pos c]; exact relayAll_perm _ _ _
  · rw [if_neg c]
theorem TxR.add {D : SD} {l : List Str} {k : Str} (u : Tok) (R : TxR P w D l) (hk : k ∉ l) : TxR P w (addTx (hashStr w k) (.str k u) D) (k :: l) := by
  obtain ⟨us, hu, hp⟩ := R.all
  refine ⟨add_ok u R.ok, ⟨u :: us, by rw [List.length_cons, List.length_cons, hu], ?_⟩, List.nodup_cons.mpr ⟨hk, R.nd⟩, ?_, ?_⟩
  · have p1 : (addTx (hashStr w k) (.str k u) D).1.toList.Perm (D.1.push (hashStr w k, .str k u)).toList := tail_all.trans (layNew_perm _ _ _ _)
    rw [Array.toList_push] at p1
    exact p1.trans ((List.perm_append_singleton _ _).trans (hp.cons _))
  · refine tail_ris ?_
    have q := layNew_ris D.2.2 D.1 (hashStr w k) (.str k u) R.ris
    split
    · exact q
    · exact q
  · have e1 : (addTx (hashStr w k) (.str k u) D).2.2.led = D.2.2.led := by
      unfold addTx
      rw [tail_led]
      have q := layNew_led D.2.2 D.1 (hashStr w k) (.str k u)
      split
      · exact q
      · exact q
    exact R.led.imp id fun z => e1.trans z
/-- a text that is there already is put in -/
theorem add_old {a : Addr} {T : String} {D : SD} {l : List Str} {k : Str} {u : Tok} {Q : Bool → Shared → Prop} (at_ : s.heap.get? a = some (sObj T D)) (F : TxOk P w D l) (hk : k ∈ l) (hb : l.length < scanBound)
    (h : Q false s) : wpAny (model P w) A (setAddHashed a (.str k u) (hashStr w k)) Q E s := by
  obtain ⟨xs, ep, t⟩ := D
  obtain ⟨e, he, hq⟩ := (F.mem k).mp hk
  have size : xs.size < scanBound := by have e : xs.size = l.length := F.sz; omega
  obtain ⟨j, hj⟩ : ∃ j, List.findIdx? (fun e => (strKind P w).is k e.2) xs.toList = some j := by
    cases c : List.findIdx? (fun e => (strKind P w).is k e.2) xs.toList with
    | some j => exact ⟨j, rfl⟩
    | none =>
      have := List.findIdx?_eq_none_iff.mp c e he
      rw [hq] at this
      cases this
  have dat : (sObj T (xs, ep, t)).data = .set xs ep t := rfl
  unfold setAddHashed setAddHashedIn
  refine wpAny_holding (wpAny_bind (wpAny_setState_of at_ dat F.fit ?_)); dsimp only
  rw [byScan_of rfl size F.el]; simp only [↓reduceIte]
  unfold setAddByScan
  refine wpAny_bind (wpAny_bind (wpAny_rule (wpAny_bind (wpAny_setScan_of (knd := strKind P w) (k := k) (is_str k u) at_ dat F.fit F.el ?_))))
  rw [hj]; dsimp only
  exact wpAny_pure (wpAny_pure h)
end
end Pg
namespace Pg
open PySem PySem.Spec PyProof.Rows L2 PySem.Froz
/-- of some texts each once: in the order in which a set takes them -/
def onceL (acc : List Str) : List Str → List Str
  | [] => acc
  | x :: xs => onceL (if x ∈ acc then acc else x :: acc) xs
theorem once_mem : ∀ (xs acc : List Str) (k : Str), k ∈ onceL acc xs ↔ k ∈ acc ∨ k ∈ xs
  | [], acc, k => by show k ∈ acc ↔ _; simp
  | x :: xs, acc, k => by
    show k ∈ onceL (if x ∈ acc then acc else x :: acc) xs ↔ _
    rw [once_mem xs]
    by_cases h : x ∈ acc
    · rw [if_pos h, List.mem_cons]
      constructor
      · rintro (q | q)
        · exact .inl q
        · exact .inr (.inr q)
      · rintro (q | rfl | q)
        · exact .inl q
        · exact .inl h
        · exact .inr q
    · rw [if_neg h, List.mem_cons, List.mem_cons]
      constructor
      · rintro ((q | q) | q)
        · exact .inr (.inl q)
        · exact .inl q
        · exact .inr (.inr q)
      · rintro (q | q | q)
        · exact .inl (.inr q)
        · exact .inl (.inl q)
        · exact .inr q
theorem once_len : ∀ (xs acc : List Str), (onceL acc xs).length ≤ acc.length + xs.length
  | [], acc => Nat.le_refl _
  | x :: xs, acc => by
    have h := once_len xs (if x ∈ acc then acc else x :: acc)
    show (onceL (if x ∈ acc then acc else x :: acc) xs).length ≤ _
    have e : (if x ∈ acc then acc else x :: acc).length ≤ acc.length + 1 := by split <;> simp
    rw [List.length_cons]
    omega
/-- a set of these texts stands at a -/
def SetS (P : Program) (w : World) (h : Heap) (a : Addr) (l : List Str) : Prop := ∃ D, h.get? a = some (sObj "set" D) ∧ TxR P w D l
section
variable {P : Program} {w : World} {A : Around} {E : Value → Shared → Prop} {s : Shared}
/-- one text is put in, new or not -/
theorem put_txt {a : Addr} {l : List Str} {k : Str} {u : Tok} {Q : Bool → Shared → Prop} (R : SetS P w s.heap a l) (hb : l.length + 1 < scanBound)
    (h : ∀ (b : Bool) h', Heap.SameBut a s.heap h' → SetS P w h' a (if k ∈ l then l else k :: l) → Q b { s with heap := h' }) : wpAny (model P w) A (setAddHashed a (.str k u) (hashStr w k)) Q E s := by
  obtain ⟨D, at_, R⟩ := R
  by_cases hk : k ∈ l
  · refine add_old at_ R.ok hk (by omega) ?_
    exact h false s.heap (Heap.SameBut.refl _ _) (by rw [if_pos hk]; exact ⟨D, at_, R⟩)
  · refine add_x at_ R.ok hk hb ?_
    refine h true _ (Heap.SameBut.update s.heap a _) ?_
    rw [if_neg hk]
    exact ⟨_, get_upd _ at_ rfl, R.add u hk⟩
end
section
variable {prog : Program} {w : World} {A : Around} {R : Result → Shared → Prop} {I : Addr} {fp wr : List Addr} {G : Array GenState → Array GenState → Prop} {n : Nat} {P : Nat → Value → Prop} {St : Nat → Shared → Prop}
theorem SetS.moved {h h' : Heap} {a : Addr} {l : List Str} (R : SetS prog w h a l) (k : ∀ o, h.get? a = some o → h'.get? a = some o) : SetS prog w h' a l := by
  obtain ⟨D, at_, q⟩ := R
  exact ⟨D, k _ at_, q⟩
/-- the loop that puts the items of a walk in -/
theorem puts (W : WalksS prog w A.in1 I fp wr G n P St) {D : Addr} (out : D ∉ fp) (xs : List Str) (len : xs.length = n) (few : n + 1 < scanBound) (is : ∀ i v, P i v → ∃ t, v = .str (xs.getD i Str.empty) t) :
    ∀ (m i : Nat) (s : Shared) (acc : List Str), n - i = m → i ≤ n → acc.length ≤ i → St i s → SetS prog w s.heap D acc →
      (∀ s', Moved (D :: wr) G s s' → SetS prog w s'.heap D (onceL acc (xs.drop i)) → R (.ok (.ret .none)) s') →
      codeAny (model prog w) A (.builtin "set.update.loop" ⟨[.ref D, .ref I], []⟩) R s := by
  have offw : D ∉ wr := fun q => out (W.sub _ q)
  have up : ∀ b ∈ wr, b ∈ D :: wr := fun b q => List.mem_cons_of_mem _ q
  intro m
  induction m with
  | zero =>
    intro i s acc hm hi _ st S fin
    obtain rfl : i = n := by omega
    refine codeAny_builtin PyProof.Rows.F.entry_set_update_loop ?_
    rw [Around.under_plainId PyProof.Rows.F.plain_set_update_loop _]
    refine wpAny_bind (W.done s _ _ st fun s' mv => wpAny_pure (fin s' (mv.mono up) ?_))
    rw [List.drop_of_length_le (by omega)]
    exact S.moved fun o e => mv.heap D o offw e
  | succ m ih =>
    intro i s acc hm hi ha st S fin
    have lt : i < n := by omega
    refine codeAny_builtin PyProof.Rows.F.entry_set_update_loop ?_
    rw [Around.under_plainId PyProof.Rows.F.plain_set_update_loop _]
    refine wpAny_bind (W.item i s _ _ lt st fun v s' pv st' mv => ?_)
    obtain ⟨t, rfl⟩ := is i v pv
    have S' : SetS prog w s'.heap D acc := S.moved fun o e => mv.heap D o offw e
    show wpAny _ A.in1 (holding [Value.str (xs.getD i Str.empty) t] (setAdd D (.str (xs.getD i Str.empty) t)) >>= _) _ _ s'
    refine wpAny_bind (wpAny_holding ?_)
    unfold setAdd
    refine wpAny_holding (wpAny_bind ((PySem.strKind prog w).pyHash (k := xs.getD i Str.empty) (strKind_is _ _ _ _) ?_))
    refine put_txt (s := { s' with toks := s'.toks + 1 }) S' (by omega) fun b h' sb S2 => ?_
    have dr : xs.drop i = xs.getD i Str.empty :: xs.drop (i + 1) := by
      rw [List.drop_eq_getElem_cons (by omega), List.getD_eq_getElem?_getD, List.getElem?_eq_getElem (by omega)]
      rfl
    refine wpAny_pure ⟨plainId_quiet PyProof.Rows.F.plain_set_update_loop _, ih (i + 1) _ (if xs.getD i Str.empty ∈ acc then acc else xs.getD i Str.empty :: acc) (by omega) lt ?_ (W.frame _ s' _ _ st' (Nat.le_succ _) fun b hb o e => ?_) S2 fun s'' mv2 S3 => ?_⟩
    · split
      · omega
      · rw [List.length_cons]; omega
    · rw [sb.2 b fun z => out (z ▸ hb)]; exact e
    · refine fin s'' (Moved.trans W.gtrans ((mv.mono up).then_heap (Nat.le_succ _) fun b o hb e => ?_) mv2) ?_
      · rw [sb.2 b fun z => hb (z ▸ List.mem_cons_self)]; exact e
      · rw [dr]; exact S3
end
end Pg
namespace Pg
open PySem PySem.Spec PyProof.Rows L2 PySem.Froz
section
variable {prog : Program} {w : World} {A : Around} {E : Value → Shared → Prop} {s : Shared}
/-- an empty set as it is laid -/
abbrev set0 (w : World) : Obj := { cls := .type "set", dict := none, data := .set #[] 0 (.fresh 0 0 (!w.params.followText "set-order")) }
theorem code_new1 (x : Value) {Z : Value → Shared → Prop} (h : Z (.ref s.heap.objs.size) { s with heap := s.heap.push (set0 w) }) : codeAny (model prog w) A (.call (.builtin "set.__new__") ⟨[.type "set", x], []⟩) (wants Z E) s := by
  refine codeAny_of_tree ?_
  show wpAny _ A.in1 (do checkBuiltinCall "set.__new__" ⟨[.type "set", x], []⟩; again (.builtin "set.__new__" ⟨[.type "set", x], []⟩)) _ _ s
  refine wpAny_bind (wpAny_of_eq (PySem.F.newCall_set_1 x) (wpAny_pure ⟨plainId_quiet PySem.F.plain_set_new _, codeAny_builtin PySem.F.entry_set_new ?_⟩)); rw [Around.under_plainId PySem.F.plain_set_new _]
  unfold Builtin.«set.__new__» Builtin.Frozenset.newClass
  have _sub := sub_set_self
  obtain ⟨heap, gens, drawn, toks, os⟩ := s; dsimp only; wp_walk
  refine wpAny_askSetting (wpAny_pure ?_); dsimp only; simp only [newObj]
  exact wpAny_bind (wpAny_alloc (wpAny_pure (wpAny_pure h)))
theorem set0_ok {h : Heap} : SetS prog w (h.push (set0 w)) h.objs.size [] := by
  refine ⟨(#[], 0, .fresh 0 0 (!w.params.followText "set-order")), Heap.get?_push_size _ rfl, TxOk.nil (by rfl), ⟨[], rfl, List.Perm.refl _⟩, List.nodup_nil, List.Pairwise.nil, ?_⟩
  show _ ∨ (!w.params.followText "set-order") = true
  cases w.params.followText "set-order" with
  | true => exact .inl rfl
  | false => exact .inr rfl
theorem str_at : ∀ {vs : List Value} {xs : List Str}, StrsAre vs xs → ∀ (i : Nat) (v : Value), vs[i]? = some v → ∃ t, v = .str (xs.getD i Str.empty) t
  | _, _, .nil, i, v, h => by simp at h
  | _, _, .cons n t r, 0, v, h => by
    rw [List.getElem?_cons_zero] at h
    exact ⟨t, (Option.some.inj h).symm⟩
  | _, _, .cons n t r, i + 1, v, h => str_at r i v h
set_option maxHeartbeats 4000000 in
/-- set(xs), xs a list of texts -/
theorem call_set_txt {l : Addr} {items : Array Value} {xs : List Str} {Q : Value → Shared → Prop} (hh : A.handled = none) (hl : s.heap.IsList l items) (his : StrsAre items.toList xs) (few : xs.length + 1 < scanBound)
    (h : ∀ (h' : Heap) (tk : Nat), SetS prog w h' s.heap.objs.size (onceL [] xs) → (∀ b o, s.heap.get? b = some o → h'.get? b = some o) → Q (.ref s.heap.objs.size) { s with heap := h', toks := tk }) :
    wpAny (model prog w) A (call (.type "set") [.ref l]) Q E s := by
  obtain ⟨cc, tt, mro⟩ := PySem.F.called_set.mro
  have g1 := PySem.F.called_set.made; have g2 := PySem.F.called_set.sub
  refine wpAny_call (codeAny_of_tree (wpAny_pure ⟨Code.quiet_builtin _ (by decide +kernel), codeAny_builtin PySem.F.entry_type_call ?_⟩))
  rw [Around.under_plain (weight_type_call_type "set" [.ref l] []) rfl]
  have g3 := PySem.F.called_set.notType; have g4 := PySem.F.called_set.canCreate; have g5 := PySem.F.typeCall_set_1 (.ref l)
  repeat (any_goals (first | assumption | wp_step))
  refine codeAny_mono (code_new1 (prog := prog) (.ref l) (E := E) (Z := fun obj z => obj = .ref s.heap.objs.size ∧ z = { s with heap := s.heap.push (set0 w) }) ⟨rfl, rfl⟩) fun r z hr => ?_
  cases r with
  | error e => exact hr
  | ok fl =>
    cases fl with
    | ret obj =>
      obtain ⟨rfl, rfl⟩ := hr
      have at0 : (s.heap.push (set0 w)).get? s.heap.objs.size = some (set0 w) := Heap.get?_push_size _ rfl
      have ty : Shared.TypeIs { s with heap := s.heap.push (set0 w) } (.ref s.heap.objs.size) "set" := ⟨_, at0, rfl⟩
      have g6 := PySem.F.called_set.init.lookup; have g7 := PySem.F.called_set.init.bind (.ref s.heap.objs.size)
      repeat (any_goals (first | assumption | wp_step))
      refine codeAny_mono (codeAny_call_builtin (R := wants (fun r z => r = .none ∧ ∃ h' tk, z = { s with heap := h', toks := tk } ∧ SetS prog w h' s.heap.objs.size (onceL [] xs) ∧ (∀ b o, s.heap.get? b = some o → h'.get? b = some o)) E)
        PySem.F.called_set.init.plain PySem.F.entry_set_init (check_set_init_1 ty ?_)) fun r2 z2 hr2 => ?_
      · obtain ⟨⟨oc, od, odata, osl⟩, hol, hcl, nl, hdl⟩ := hl
        simp only at hcl hdl
        subst hcl hdl
        have hol2 : (s.heap.push (set0 w)).get? l = some { cls := .type "list", dict := od, data := .seq items nl, slots := osl } := Heap.get?_push_of_some _ hol
        have hl2 : (s.heap.push (set0 w)).IsList l items := ⟨_, hol2, rfl, nl, rfl⟩
        have q1 := PySem.F.sub_list_set; have q2 := PySem.F.sub_list_frozenset
        have q3 : (Value.type "list" == Value.type "dict") = false := by decide
        unfold Builtin.«set.__init__» noKeywords Builtin.Frozenset.updateFrom
        generalize hp : pyIter = pi
        wp_walk
        subst hp
        refine wpAny_pyIter_list hl2 (wpAny_bind (wpAny_runValue ?_))
        have lt : l < s.heap.objs.size := Heap.lt_size hol
        have handled : A.in1.in1.in1.handled = none := by simp [hh]
        have sz1 : (s.heap.push (set0 w)).objs.size = s.heap.objs.size + 1 := Heap.size_push _ _
        have ne : l ≠ (s.heap.push (set0 w)).objs.size := by rw [sz1]; exact Nat.ne_of_lt (Nat.lt_succ_of_lt lt)
        have out : s.heap.objs.size ∉ [(s.heap.push (set0 w)).objs.size, l] := by
          rw [sz1]
          intro m
          rcases List.mem_cons.mp m with m | m
          · exact absurd m (Nat.ne_of_lt (Nat.lt_succ_self _))
          · exact absurd (List.mem_singleton.mp m) (Nat.ne_of_gt lt)
        have len : xs.length = items.size := by rw [← StrsAre.len_eq his, Array.length_toList]
        have is : ∀ (i : Nat) (v : Value), items[i]? = some v → ∃ t, v = .str (xs.getD i Str.empty) t := fun i v hv => str_at his i v (by rw [Array.getElem?_toList]; exact hv)
        refine puts ((Walks.list handled _ l ne items).toS) out xs len (by rw [← len]; exact few) is (items.size - 0) 0 _ [] (by omega) (Nat.zero_le _) (Nat.le_refl _) ⟨⟨_, Heap.get?_push_size _ rfl, rfl, rfl⟩, hl2.push _⟩ (set0_ok.moved fun o e => Heap.get?_push_of_some _ e) ?_
        rintro ⟨h', g', d', tk', os'⟩ mv S
        obtain rfl : g' = s.gens := mv.gens
        obtain rfl : d' = s.drawn := mv.drawn
        obtain rfl : os' = s.os := mv.os
        refine wpAny_pure ?_
        refine wpAny_pure ⟨rfl, h', tk', rfl, S, fun b o e => ?_⟩
        have hb : b < s.heap.objs.size := Heap.lt_size e
        refine mv.heap b o (fun m => ?_) (Heap.get?_push_of_some _ (Heap.get?_push_of_some _ e))
        rcases List.mem_cons.mp m with m | m
        · exact absurd m (Nat.ne_of_lt hb)
        · have q := List.mem_singleton.mp m
          rw [sz1] at q
          exact absurd q (Nat.ne_of_lt (Nat.lt_succ_of_lt hb))
      · cases r2 with
        | error e => exact hr2
        | ok fl2 =>
          cases fl2 with
          | ret r =>
            obtain ⟨rfl, h', tk, rfl, a1, a2⟩ := hr2
            repeat (any_goals (first | assumption | wp_step))
            exact h _ _ a1 a2
          | _ => exact hr2.elim
    | _ => exact hr.elim
end
end Pg
namespace Pg
open PySem PySem.Spec PyProof.Rows L2 PySem.Froz
section
variable {prog : Program} {w : World} {A : Around} {E : Value → Shared → Prop} {s : Shared}
/-- the values of a set of texts, in some order, are texts -/
theorem vals_strs : ∀ {vs : List Value} {ps : List (Str × Tok)}, vs.Perm (ps.map fun p => Value.str p.1 p.2) → StrsAre vs (vs.map strOf) ∧ (vs.map strOf).Perm (ps.map Prod.fst) := fun {vs ps} h => by
  refine ⟨strsAre_map vs fun v m => ?_, ?_⟩
  · obtain ⟨p, _, rfl⟩ := List.mem_map.mp (h.mem_iff.mp m)
    exact ⟨p.1, p.2, rfl⟩
  · have q := h.map strOf
    rw [List.map_map] at q
    exact q.trans (List.Perm.of_eq rfl)
theorem zip_fst {α β : Type} : ∀ (l : List α) (us : List β), us.length = l.length → (l.zip us).map Prod.fst = l
  | [], _, _ => rfl
  | x :: l, [], h => by simp at h
  | x :: l, u :: us, h => by rw [List.zip_cons_cons, List.map_cons, zip_fst l us (by simpa using h)]
/-- sorted(a), a set of texts -/
theorem sorted_txt {a : Addr} {l : List Str} {Q : Value → Shared → Prop} (R : SetS prog w s.heap a l) (hh : A.handled = none) (few : l.length < 4000)
    (h : ∀ z p (out : Array Value) (n : Nat) (ys : List Str), (∀ b o, s.heap.get? b = some o → z.heap.get? b = some o) → z.gens = s.gens → z.os = s.os → s.heap.objs.size ≤ p → z.heap.get? p = some (seqObj "list" out n) →
      StrsAre out.toList ys → ys.Perm l → sortedS ys = true → Q (.ref p) z) : wpAny (model prog w) A (call (.builtin "sorted") [.ref a]) Q E s := by
  obtain ⟨⟨es, ep, t⟩, at_, R⟩ := R
  obtain ⟨us, hu, pm⟩ := R.all
  have sz : es.size = l.length := R.ok.sz
  have scan : es.size < scanBound := by rw [sz]; exact Nat.lt_of_lt_of_le few (by decide)
  refine Calls.call_function_entry kind_sorted plain_sorted entry_sorted (args_sorted1 _) ?_
  unfold Builtin.«sorted»
  refine wpAny_bind (m := checkCount "sorted" 1 1 _) (wpAny_pure (wpAny_bind (collect_set (A := A.in1) hh ⟨_, at_, rfl, rfl⟩ R.ok.fit scan R.ris R.led fun z vs k1 hz g1 o1 pv => ?_)))
  have pv2 : vs.Perm ((l.zip us).map fun p => Value.str p.1 p.2) := by
    have q := pv.trans (pm.map (·.2))
    rw [List.map_map] at q
    exact q
  obtain ⟨st, ps⟩ := vals_strs pv2
  rw [zip_fst l us hu] at ps
  have vlen : vs.length = l.length := by
    have := ps.length_eq
    rwa [List.length_map] at this
  refine wpAny_bind (wpAny_newList ?_ (by rw [vlen, sizeLine_eq]; omega))
  have new : (z.heap.push (seqObj "list" vs.toArray 0)).get? z.heap.objs.size = some (seqObj "list" vs.toArray 0) := Heap.get?_push_size _ rfl
  refine wpAny_bind (wpAny_holding (wpAny_call_entry slot_list_sort ⟨_, new, rfl⟩ entry_list_sort (list_sort_treeKAny strKind_oneLt new st.keysOf (fun v1 v2 rest e => keyKind_strs (by rw [← e]; exact st)) (by rw [vlen, sizeLine_eq]; omega) fun st' hp hs => ?_) (args_list_sort _)))
  obtain ⟨ys, y1, y2, y3⟩ := sorted_out_str st hp hs
  obtain ⟨n, hn⟩ := sortedHeap_at (vs := vs) (out := (arrOf st').map (·.2)) new
  refine ⟨_, rfl, wpAny_pure ⟨_, rfl, h _ z.heap.objs.size _ n ys (fun b o e => ?_) g1 o1 hz hn y1 (y2.trans ps) y3⟩⟩
  have q := k1 b o e
  have lt := Heap.lt_size q
  show (sortedHeap (z.heap.push (seqObj "list" vs.toArray 0)) z.heap.objs.size vs _).get? b = some o
  rw [sortedHeap_old (Nat.ne_of_lt lt) (by rw [size_push']; exact Nat.lt_succ_of_lt lt)]
  exact Heap.get?_push_of_some _ q
end
end Pg
namespace Pg
open PySem PySem.Spec PyProof.Rows L2
/-! ### defs that are called where no text is being written of anything -/
structure FnG (P : Program) (w : World) (K : PySem.W.Frag) (mg : Str → Option Value) (base : Heap) (k : Nat) (f : Addr) (fd : FuncData) (ps : List Str) (sp : Sp) : Prop where
  ln : ∀ vs H Q E, sp vs H Q E → vs.length = ps.length
  go : ∀ (A : Around), A.guards = some [] → Room k A → ∀ (outer : List Env) (s : Shared) (H : Hp), Env0 P w K mg base A outer s H →
    ∀ (args : Args) (us : List Value) (vs : List V) (Q : VK) (E : XK), BindsTo s fd args (ps.zip us) → Vals vs us → sp vs H Q E →
    codeAny (model P w) A (.call (.ref f) args) (CR CX0 outer P w H s Q E) s
section
variable {P : Program} {w : World} {K : PySem.W.Frag} {mg : Str → Option Value} {base : Heap}
theorem FnG.of {k : Nat} {f : Addr} {fd : FuncData} {ps : List Str} {sp : Sp} (F : FnOk P w K mg base CX0 k f fd ps sp) : FnG P w K mg base k f fd ps sp :=
  ⟨F.len, fun A _ r outer s H e args us vs Q E b v h => F.run A outer s H args us vs Q E r e b v h⟩
theorem FnG.mono {j k : Nat} {f : Addr} {fd : FuncData} {ps : List Str} {sp : Sp} (F : FnG P w K mg base j f fd ps sp) (h : j ≤ k) : FnG P w K mg base k f fd ps sp :=
  ⟨F.ln, fun A g r => F.go A g (r.mono h)⟩
/-- a def by its body -/
theorem Df.g {x : Str} {st : Stmt} {f : Addr} {fd : FuncData} {N ps : List Str} {k : Nat} {sp : Sp} (D : Df K mg x st ps f fd) (S : FnScope N ps (defScope st)) (len : ∀ vs H Q E, sp vs H Q E → vs.length = ps.length)
    (hb : ∀ (cdv : Value) (A : Around) (outer : List Env) (s : Shared) (H : Hp) (vs : List V) (Q : VK) (E : XK), (A.deeper (envOfC x (defScope st) s.heap.objs.size f cdv)).guards = some [] →
      Room k (A.deeper (envOfC x (defScope st) s.heap.objs.size f cdv)) → sp vs H Q E →
      ∃ t, PSs (cxOf CX0 P w K mg base N x (defScope st) f cdv A outer s H E).nox (defBody st) t ∧ t { nx := fun _ H' => Q .non H', rt := Q } (start N vs) H) : FnG P w K mg base (k + 1) f fd ps sp := by
  obtain ⟨oc, od, kV, doc, pm, an, cdv, ct, osl, rfl, lk, hcd⟩ := D.fn.ex
  refine ⟨len, fun A g hr outer s H e0 args us vs Q E bt rv hsp => ?_⟩
  have hlen := len _ _ _ _ hsp
  have KX : K.In s.heap := e0.mod.kin.keeps fun b o e => (e0.bs b o e).1
  have lim : s.heap.NoLimit := e0.mod.nolimit.keeps fun b o e => (e0.bs b o e).1
  refine codeAny_call_function hr.depth (KX _ _ lk) rfl S.co S.gen rfl (PySem.W.codeRec_of KX hcd) (bt _ _ _ _ ?_)
  refine wpAny_newFunctionEnv_cells S.kind (fun y hy => ?_) fun env he s1 x1 => ?_
  · have hp : y.1 ∈ ps := (List.of_mem_zip (show (y.1, y.2) ∈ ps.zip us from hy)).1
    refine (S.par y.1 hp).imp id fun q => ⟨q, ?_⟩
    exact PySem.W.cellsFrom_some _ _ _ (.inl q)
  subst he
  refine ⟨lim.keeps x1.toInCall.keep, codeAny_func ?_⟩
  obtain ⟨t, ht, hq⟩ := hb cdv A outer s H vs Q E (by rw [← g]; rfl) (hr.deeper _) hsp
  refine wpAny_mono (ht.nox.run [] s1 (start N vs) H _ (inv_start S hr.hd e0 hlen rv x1) hq) (fun fl s' hs => ?_) fun e s' hs => hs
  cases fl with
  | ret u =>
    obtain ⟨v, σ', H', J, rv', q⟩ := hs
    exact ⟨v, H', J.os, J.bare, J.base, J.hok, rv', q⟩
  | next =>
    obtain ⟨σ', H', J, q⟩ := hs
    exact ⟨.non, H', J.os, J.bare, J.base, J.hok, rfl, q⟩
  | brk =>
    obtain ⟨_, _, _, q⟩ := hs
    exact q.elim
  | cont =>
    obtain ⟨_, _, _, q⟩ := hs
    exact q.elim
end
/-- a def of the text with such a promise -/
structure ClG (P : Program) (w : World) (K : PySem.W.Frag) (mg : Str → Option Value) (base : Heap) (k : Nat) (x : Str) (st : Stmt) (ps : List Str) (sp : Sp) : Prop where
  ex : ∃ f fd, Df K mg x st ps f fd ∧ FnG P w K mg base k f fd ps sp
section
variable {X : Cx} {j k : Nat} {st : Stmt} {f : Addr} {fd : FuncData} {ps : List Str} {sp : Sp} {x : Str} {p pos : Pos} {e : Expr} {es : List Expr} {t : TA}
theorem run_g {pins : List (Addr × Obj)} {σ : L2.St} {H : Hp} {s : Shared} {Q : VK} {us : List Value} {vs : List V} (F : FnG X.prog X.w X.K X.mg X.base k f fd ps sp) (hG : X.A.guards = some []) (hr : Room k X.A) (hb : Binds X.K fd ps [])
    (I : Inv X pins σ H s) (r : Vals vs us) (h : sp vs H Q E0) : wpAny (model X.prog X.w) X.A (call (.ref f) us) (EP X pins σ Q) X.xe s := by
  have hl : (us ++ []).length = ps.length := by rw [List.append_nil, ← r.length]; exact F.ln _ _ _ _ h
  have bt := hb s us I.kIn hl
  rw [List.append_nil] at bt
  refine wpAny_call (codeAny_mono (F.go X.A hG hr X.stack s H I.env0 ⟨us, []⟩ us vs Q E0 bt r h) fun r s' hq => ?_)
  cases r with
  | error e => exact (pass0 (X := X) pins σ H s e s' I hq)
  | ok fl =>
    cases fl with
    | ret u => exact I.after hq
    | next => exact hq.elim
    | brk => exact hq.elim
    | cont => exact hq.elim
theorem pe_clG (c : ClG X.prog X.w X.K X.mg X.base k x st ps sp) (hG : X.A.guards = some []) (hr : Room j X.A) (hk : k ≤ j) (ha : PA X (e :: es) t) (hg : Gl X x := by rfl) (hdb : (x == ("__debug__" : Str)) = false := by decide)
    (he : starEach (e :: es) X.env = (false, eval e X.env) :: starEach es X.env := by rfl) (hpl : (backTo pos (starEach es X.env)).any (·.1) = false := by rfl) :
    PE X (.Call (.Name x p) (e :: es) [] pos) (tCl sp t) := by
  obtain ⟨f, fd, D, F⟩ := c.ex
  refine ⟨fun pins s σ H Q I h => ?_⟩
  refine wpAny_Call_Name_kw (ld_glob I hg D.at_ ?_ hdb)
  refine PySem.W.callWith_K (h₀ := X.base) I.ok.mod.kin D.fn.kp (thn (ha.run pos pins s σ H _ I h) fun us s1 ⟨vs, H1, I1, r, q⟩ => ⟨I1.kIn, ?_⟩) he hpl
  exact run_g (F.mono hk) hG hr D.bd I1 r q
end
end Pg
namespace Pg
open PySem PySem.Spec PyProof.Rows L2
/-! ### the end of a law, from a promise that is kept where no text is being written -/
section
variable {P : Program} {w : World} {K : PySem.W.Frag} {mg mb : Str → Option Value} {h : Heap} {a : Addr} {ob : Obj} {xs : List V}
/-- what is known of the store at first: the script, where it is no object of the module -/
def H0 (K : PySem.W.Frag) (a : Addr) (ob : Obj) (xs : List V) : Hp := fun b => if b = a ∧ K.lookup a = none then some (.frz ob (.lst xs)) else none
theorem h0_cases (b : Addr) : H0 K a ob xs b = none ∨ (b = a ∧ K.lookup a = none ∧ H0 K a ob xs b = some (.frz ob (.lst xs))) := by
  by_cases c : b = a ∧ K.lookup a = none
  · exact .inr ⟨c.1, c.2, if_pos c⟩
  · exact .inl (if_neg c)
theorem h0_none {b : Addr} (n : b ≠ a) : H0 K a ob xs b = none := if_neg fun c => n c.1
theorem h0_base {b : Addr} {o : Obj} (e : h.get? b = some o) (n : H0 K a ob xs b = none) : (hidT h (H0 K a ob xs)).get? b = some o := hidT_get e n
theorem h0_ns {b : Addr} {m : Str → Option Value} {l : List Value} {n : Nat} (ha : h.get? a = some { cls := .type "list", data := .seq l.toArray n }) (q : h.Ns b m) : (hidT h (H0 K a ob xs)).Ns b m := by
  obtain ⟨o, es, ep, e, d, r⟩ := q
  refine ⟨o, es, ep, h0_base e (h0_none fun z => ?_), d, r⟩
  subst z
  rw [ha] at e
  cases e
  exact Data.noConfusion d
theorem law_g {k : Nat} {fa : Addr} {fd : FuncData} {x : Str} {sp : Sp} {s₁ : Shared} {vs : List Value} {ns : List Int}
    (KX : K.In s₁.heap) (hns : s₁.heap.Ns mainGlobals mg) (hb : s₁.heap.Ns builtinsNs mb) (hbb : ∀ x : Str, x ≠ "__name__" → mb x = bootBuiltins x) (hlim : s₁.heap.NoLimit) (hg : s₁.gens = #[])
    (ha : s₁.heap.get? a = some { cls := .type "list", data := .seq vs.toArray }) (hi : IntsAre vs ns) (hl : ns.length ≤ sizeLine) (hr : Room k callerA)
    (F : ∀ base : Heap, K.In base → base.Ns mainGlobals mg → FnG P w K mg base k fa fd [x] sp) (hbind : ∀ (s : Shared) (u : Value), BindsTo s fd ⟨[u], []⟩ [(x, u)])
    (hsp : ∀ H : Hp, L2.Only H → SqL K H a (ns.map V.int) → sp [.ref a] H (fun v _ => v = .bl true) fun _ _ _ => False) :
    codeAny (model P w) callerA (.call (.ref fa) ⟨[.ref a], []⟩) (fun r s' => r = .ok (.ret (.bool true)) ∧ OldK s₁.heap s'.heap ∧ s'.os = s₁.os ∧ AllBare s'.gens) s₁ := by
  have rv := vals_ints hi
  have hlen : (ns.map V.int).length ≤ sizeLine := by rw [List.length_map]; exact hl
  have hK : K.In (hidT s₁.heap (H0 K a { cls := .type "list", data := .seq vs.toArray } (ns.map V.int))) := fun b o e => h0_base (KX b o e) (by
    rcases h0_cases (K := K) (a := a) (ob := { cls := .type "list", data := .seq vs.toArray }) (xs := ns.map V.int) b with q | ⟨rfl, q, _⟩
    · exact q
    · rw [q] at e
      cases e)
  have hM : Mod K mg (hidT s₁.heap (H0 K a { cls := .type "list", data := .seq vs.toArray } (ns.map V.int))) := by
    obtain ⟨mc, l1, l2⟩ := hlim
    exact ⟨hK, h0_ns ha hns, ⟨mb, h0_ns ha hb, hbb⟩, ⟨mc, h0_ns ha l1, l2⟩⟩
  have hok : HOk P w (H0 K a { cls := .type "list", data := .seq vs.toArray } (ns.map V.int)) s₁.heap := fun b u z => by
    rcases h0_cases (K := K) (a := a) (ob := { cls := .type "list", data := .seq vs.toArray }) (xs := ns.map V.int) b with q | ⟨rfl, _, q⟩
    · rw [q] at z
      cases z
    · rw [q] at z
      cases z
      exact ⟨ha, hlen, vs, _, rv, ha⟩
  have e0 : Env0 P w K mg (hidT s₁.heap (H0 K a { cls := .type "list", data := .seq vs.toArray } (ns.map V.int))) callerA [] s₁ (H0 K a { cls := .type "list", data := .seq vs.toArray } (ns.map V.int)) :=
    ⟨rfl, hM, fun b o e => of_hidT e, Nat.le_of_eq (hidT_size _ _), trivial, fun b z => absurd (show b ∈ ([] : List Addr) from z) (by simp), hok, .of_eq hg⟩
  have hO : L2.Only (H0 K a { cls := .type "list", data := .seq vs.toArray } (ns.map V.int)) := fun b => by
    rcases h0_cases (K := K) (a := a) (ob := { cls := .type "list", data := .seq vs.toArray }) (xs := ns.map V.int) b with q | ⟨_, _, q⟩
    · exact .inl q
    · exact .inr ⟨_, _, q⟩
  have hS : SqL K (H0 K a { cls := .type "list", data := .seq vs.toArray } (ns.map V.int)) a (ns.map V.int) := by
    cases hk : K.lookup a with
    | none => exact .inl (.inr ⟨_, if_pos ⟨rfl, hk⟩⟩)
    | some o =>
      have e := KX a o hk
      rw [ha] at e
      cases e
      exact .inr ⟨_, vs.toArray, _, hk, rfl, rfl, rfl, by rw [List.size_toArray, hi.length]; exact hl, by simpa using rv⟩
  refine codeAny_mono ((F _ hK (h0_ns ha hns)).go callerA rfl hr [] s₁ _ e0 ⟨[.ref a], []⟩ [.ref a] [.ref a] _ _ (hbind s₁ (.ref a)) (.cons rfl .nil) (hsp _ hO hS)) fun r s' q => ?_
  cases r with
  | error e => exact q.elim
  | ok fl =>
    cases fl with
    | next => exact q.elim
    | brk => exact q.elim
    | cont => exact q.elim
    | ret u =>
      obtain ⟨v, H', os, bare, un, hok', r', q⟩ := q
      have q' : v = .bl true := q
      subst q'
      obtain rfl : u = Value.bool true := r'
      refine ⟨rfl, OldK.of_keep fun b o e => ?_, os, bare⟩
      rcases h0_cases (K := K) (a := a) (ob := { cls := .type "list", data := .seq vs.toArray }) (xs := ns.map V.int) b with z | ⟨_, _, z⟩
      · exact un.keep b o e z (fun z => absurd (show b ∈ ([] : List Addr) from z) (by simp)) (by simp)
      · obtain ⟨e1, _⟩ := hok b _ z
        obtain ⟨e2, _⟩ := hok' b _ (un.frzs b _ _ z)
        rw [e] at e1
        cases e1
        exact e2
end
/-- the goal that the end of a law leaves -/
theorem walk_g {l : PySem.W.OpenLaw} {n k : Nat} {q : Program} {loose : List Str} {XP : (Str → Option Value) → Heap → Prop} {YP : World → Heap → Prop} {d : DefRec} {K : Params → PySem.W.Frag} {sp : World → Sp} {x : Str}
    (hn : l.most = some n) (hn2 : n ≤ sizeLine) (hdf : d.params.defaults = []) (hr : Room k callerA) (hY : ∀ (w : World) (h : Heap), YP w h → (K w.params).In h)
    (F : ∀ (w : World) (mg : Str → Option Value) (fa : Addr) (h : Heap), (K w.params).In h → h.Ns mainGlobals mg → mg d.name = some (.ref fa) →
      ∃ fd : FuncData, (∀ (s : Shared) (u : Value), BindsTo s fd ⟨[u], []⟩ [(x, u)]) ∧ ∀ base : Heap, (K w.params).In base → base.Ns mainGlobals mg → FnG l.prog w (K w.params) mg base k fa fd [x] (sp w))
    (hsp : ∀ (w : World) (H : Hp) (a : Addr) (ns : List Int), ns.length ≤ n → L2.Only H → SqL (K w.params) H a (ns.map V.int) → sp w [.ref a] H (fun v _ => v = .bl true) fun _ _ _ => False) :
    PySem.W.WalkO q loose XP YP l.row.toRowW d [] (fun f vs => PySem.call f vs) :=
  Att.attach_call hn hdf fun w _ s₁ mg _ fa _ _ _ _ a _ ns G Y _ _ _ hmg hobj hints hlen hg => by
    obtain ⟨fd, hb, hF⟩ := F w mg fa _ (hY w _ Y) G.T.g hmg
    exact law_g (hY w _ Y) G.T.g G.T.b G.T.builtins G.T.nolimit hg hobj hints (Nat.le_trans hlen hn2) hr hF hb fun H hO hS => hsp w H a ns hlen hO hS
end Pg
namespace Pg
open PySem PySem.Spec PyProof.Rows L2
/-! ### repr of data -/
mutual
theorem dp_plain {K : PySem.W.Frag} {H : Hp} : ∀ (d : PyData) {v : V}, Dp K H v d → d.hasDict = false
  | .none, _, _ => by simp only [PyData.hasDict]
  | .bool _, _, _ => by simp only [PyData.hasDict]
  | .int _, _, _ => by simp only [PyData.hasDict]
  | .str _, _, _ => by simp only [PyData.hasDict]
  | .list ds, _, h => by
    cases h with
    | lst _ q =>
      simp only [PyData.hasDict]
      exact dps_plain ds q
  | .tuple ds, _, h => by
    cases h with
    | tup _ q =>
      simp only [PyData.hasDict]
      exact dps_plain ds q
  | .dict _, _, h => by cases h
theorem dps_plain {K : PySem.W.Frag} {H : Hp} : ∀ (ds : List PyData) {vs : List V}, DpAll K H vs ds → PyData.hasDictAll ds = false
  | [], _, _ => by simp only [PyData.hasDictAll]
  | d :: ds, _, h => by
    cases h with
    | cons a b => simp only [PyData.hasDictAll, dp_plain d a, dps_plain ds b, Bool.or_self]
end
def rRepr (K : PySem.W.Frag) : List V → Hp → VK → Prop := fun xs H Q => ∃ v d, xs = [v] ∧ Dp K H v d ∧ d.showable = true ∧ d.depth ≤ 100 ∧ d.shown.length ≤ sizeLine ∧ Q (.str d.shown) H
theorem call_repr {X : Cx} {j : Nat} (hG : X.A.guards = some []) (hr : Room j X.A) : CallR X (.builtin "repr") (rRepr X.K) := by
  intro pins s σ H xs us Q I r h
  obtain ⟨v, d, rfl, dp, sh, dd, sz, q⟩ := h
  obtain ⟨u, rfl, rv⟩ := vals1 r
  have hu : X.A.units + (d.depth + 1) < cLine := by have := hr.un; omega
  obtain ⟨as, rd⟩ := Dp.reads I d v u dp rv
  have nd : d.hasDict = true → sysModules ∉ as := PyData.noDict_hsm (dp_plain d dp)
  have deep : ∀ a, u = .ref a → wpAny (model X.prog X.w) X.A (call (.builtin "repr") [u]) (EP X pins σ Q) X.xe s := fun a e => by
    subst e
    exact repr_of_reads' rd sh nd hG hu (fun _ _ e => e) (fun h' t tk k => ⟨.str d.shown, H, I.kept k, ⟨t, rfl⟩, q⟩) sz
  cases rd with
  | none => exact PySem.P.repr_of_none ⟨.str _, H, I.tok _, ⟨_, rfl⟩, by simpa only [PyData.shown] using q⟩
  | bool b => exact PySem.P.repr_of_bool ⟨.str _, H, I.tok _, ⟨_, rfl⟩, by simpa only [PyData.shown] using q⟩
  | int i t => exact PySem.P.repr_of_int (by simpa [PyData.showable] using sh) ⟨.str _, H, I.tok _, ⟨_, rfl⟩, by simpa only [PyData.shown] using q⟩
  | str x t => exact PySem.P.repr_of_str ⟨.str _, H, I.tok _, ⟨_, rfl⟩, by simpa only [PyData.shown] using q⟩ (by simpa only [PyData.shown] using sz)
  | list _ _ _ _ => exact deep _ rfl
  | tuple _ _ _ _ => exact deep _ rfl
  | dict _ _ _ _ _ => exact deep _ rfl
-- a bound for the signs of data whose texts are short: 4 more for every part, 402 for a text
mutual
def dW : PyData → Nat
  | .none => 4
  | .bool _ => 5
  | .int _ => 30
  | .str _ => 402
  | .list ds => dWs ds + 4
  | .tuple ds => dWs ds + 4
  | .dict _ => 0
def dWs : List PyData → Nat
  | [] => 0
  | d :: ds => dW d + 2 + dWs ds
end
-- no ints, texts of 40 letters at most
mutual
inductive Neat : PyData → Prop
  | non : Neat .none
  | bl (b : Bool) : Neat (.bool b)
  | str {x : Str} (h : x.length ≤ 40) (c : ∀ n ∈ x.cps.toList, n < 16 ^ 8) : Neat (.str x)
  | lst {ds : List PyData} : Neats ds → Neat (.list ds)
  | tup {ds : List PyData} : Neats ds → Neat (.tuple ds)
inductive Neats : List PyData → Prop
  | nil : Neats []
  | cons {d : PyData} {ds : List PyData} : Neat d → Neats ds → Neats (d :: ds)
end
mutual
theorem neat_sh : ∀ (d : PyData), Neat d → d.showable = true
  | .none, _ => by simp only [PyData.showable]
  | .bool _, _ => by simp only [PyData.showable]
  | .str _, _ => by simp only [PyData.showable]
  | .int _, h => by cases h
  | .list ds, .lst q => by
    simp only [PyData.showable]
    exact neats_sh ds q
  | .tuple ds, .tup q => by
    simp only [PyData.showable]
    exact neats_sh ds q
  | .dict _, h => by cases h
theorem neats_sh : ∀ (ds : List PyData), Neats ds → PyData.showableAll ds = true
  | [], _ => by simp only [PyData.showableAll]
  | d :: ds, .cons a b => by simp only [PyData.showableAll, neat_sh d a, neats_sh ds b, Bool.and_self]
end
theorem textFrom_le : ∀ (ts : List Str) (k : Nat) (acc : Str), (textFrom k acc ts).length ≤ acc.length + (ts.map fun t => t.length + 2).sum
  | [], k, acc => by
    show acc.length ≤ _
    simp
  | t :: ts, k, acc => by
    have ih := textFrom_le ts (k + 1) (acc ++ (if k > 0 then ", " else "" : String) ++ t)
    have e : (acc ++ (if k > 0 then ", " else "" : String) ++ t).length ≤ acc.length + 2 + t.length := by
      rw [strLen_append, strLen_append]
      by_cases c : k > 0
      · rw [if_pos c]
        have : (Str.ofString ", ").length = 2 := rfl
        omega
      · rw [if_neg c]
        have : (Str.ofString "").length = 0 := rfl
        omega
    rw [List.map_cons, List.sum_cons]
    show (textFrom (k + 1) (acc ++ (if k > 0 then ", " else "" : String) ++ t) ts).length ≤ _
    omega
theorem piled_sum : ∀ ts : List Str, piled ts = (ts.map fun t => t.length + 2).sum
  | [] => rfl
  | t :: ts => by simp [piled, piled_sum ts]
theorem tupleText_le (ts : List Str) : (tupleText ts).length ≤ (ts.map fun t => t.length + 2).sum + 4 := by
  have e1 : (Str.ofString "(").length = 1 := rfl
  have e2 : (Str.ofString (if ts.length == 1 then ",)" else ")")).length ≤ 2 := by split <;> decide
  have e3 : (Str.join (Str.ofString ", ") ts).length ≤ (ts.map fun t => t.length + 2).sum := by
    cases ts with
    | nil => exact Nat.zero_le _
    | cons t ts =>
      have q := join_length_add (t :: ts) (by simp)
      rw [piled_sum] at q
      omega
  unfold tupleText
  rw [strLen_append, strLen_append]
  omega
theorem listText_le (ts : List Str) : (listText ts).length ≤ (ts.map fun t => t.length + 2).sum + 4 := by
  have e1 : (Str.ofString "[").length = 1 := rfl
  have e2 : (Str.ofString "]").length = 1 := rfl
  have q := textFrom_le ts 0 (Str.ofString "[")
  show (textFrom 0 "[" ts ++ "]").length ≤ _
  rw [strLen_append]
  omega
mutual
theorem neat_le : ∀ (d : PyData), Neat d → d.shown.length ≤ dW d
  | .none, _ => by
    simp only [PyData.shown, dW]
    decide
  | .bool b, _ => by
    cases b <;> simp only [PyData.shown, dW] <;> decide
  | .str x, .str h c => by
    simp only [PyData.shown, dW]
    have := StrLaws.reprText_len x c
    omega
  | .int _, h => by cases h
  | .list ds, .lst q => by
    simp only [PyData.shown, dW]
    have a := listText_le (PyData.shownAll ds)
    have b := neats_le ds q
    omega
  | .tuple ds, .tup q => by
    simp only [PyData.shown, dW]
    have a := tupleText_le (PyData.shownAll ds)
    have b := neats_le ds q
    omega
  | .dict _, h => by cases h
theorem neats_le : ∀ (ds : List PyData), Neats ds → ((PyData.shownAll ds).map fun t => t.length + 2).sum ≤ dWs ds
  | [], _ => by
    simp only [PyData.shownAll, dWs]
    decide
  | d :: ds, .cons a b => by
    have p := neat_le d a
    have q := neats_le ds b
    simp only [PyData.shownAll, dWs, List.map_cons, List.sum_cons]
    omega
end
/-- repr of data with short texts and no ints -/
def rNeat (K : PySem.W.Frag) : List V → Hp → VK → Prop := fun xs H Q => ∃ v d, xs = [v] ∧ Dp K H v d ∧ Neat d ∧ d.depth ≤ 100 ∧ dW d ≤ 10000000 ∧ Q (.str d.shown) H
theorem call_repr_neat {X : Cx} {j : Nat} (hG : X.A.guards = some []) (hr : Room j X.A) : CallR X (.builtin "repr") (rNeat X.K) := fun pins s σ H xs us Q I r h => by
  obtain ⟨v, d, e, dp, n, dd, sz, q⟩ := h
  exact call_repr hG hr pins s σ H xs us Q I r ⟨v, d, e, dp, neat_sh d n, dd, Nat.le_trans (neat_le d n) (Nat.le_trans sz (by decide)), q⟩
end Pg
namespace Pg
open PySem PySem.Spec PyProof.Rows L2
/-! ### sorted(set(xs)), texts -/
theorem once_nodup : ∀ (xs acc : List Str), acc.Nodup → (onceL acc xs).Nodup
  | [], _, h => h
  | x :: xs, acc, h => by
    show (onceL (if x ∈ acc then acc else x :: acc) xs).Nodup
    refine once_nodup xs _ ?_
    by_cases c : x ∈ acc
    · rw [if_pos c]
      exact h
    · rw [if_neg c]
      exact List.nodup_cons.mpr ⟨c, h⟩
theorem txt_lt_of {a b : List Nat} (n : ¬ b < a) (d : a ≠ b) : a < b := by
  by_cases h : a < b
  · exact h
  · exact absurd (List.le_antisymm (List.not_lt.mp n) (List.not_lt.mp h)) d
theorem rising_pw : ∀ (zs : List (List Nat)) (p : List Nat), (p :: zs).Nodup → risingS (tx p) (zs.map tx) = true → (p :: zs).Pairwise (· < ·)
  | [], p, _, _ => List.pairwise_singleton _ _
  | z :: zs, p, nd, h => by
    have h' : (!ltCps z p && risingS (tx z) (zs.map tx)) = true := by simpa [risingS] using h
    rw [ltCps_eq] at h'
    obtain ⟨h1, h2⟩ := Bool.and_eq_true_iff.mp h'
    obtain ⟨n1, n2⟩ := List.nodup_cons.mp nd
    have ih := rising_pw zs z n2 h2
    have pz : p < z := txt_lt_of (by simpa using h1) fun e => n1 (by rw [e]; exact List.mem_cons_self)
    refine List.pairwise_cons.mpr ⟨fun y m => ?_, ih⟩
    rcases List.mem_cons.mp m with rfl | m
    · exact pz
    · exact List.lt_trans pz ((List.pairwise_cons.mp ih).1 y m)
theorem sorted_pw {ls : List (List Nat)} {ys : List Str} (pm : ys.Perm (onceL [] (ls.map tx))) (so : sortedS ys = true) : ∃ zs : List (List Nat), ys = zs.map tx ∧ zs.Pairwise (· < ·) ∧ (∀ l, l ∈ zs ↔ l ∈ ls) ∧ zs.length ≤ ls.length := by
  have e : ys = (ys.map fun s => s.cps.toList).map tx := by
    rw [List.map_map]
    conv => lhs; rw [← List.map_id ys]
    rfl
  have nd : ys.Nodup := pm.nodup_iff.mpr (once_nodup _ _ List.nodup_nil)
  have mem : ∀ s, s ∈ ys ↔ s ∈ ls.map tx := fun s => by
    rw [pm.mem_iff, once_mem]
    simp
  refine ⟨ys.map fun s => s.cps.toList, e, ?_, fun l => ?_, ?_⟩
  · have nd2 : (ys.map fun s => s.cps.toList).Nodup := by
      rw [e] at nd
      exact List.Pairwise.of_map tx (fun a b h e => h (by rw [e])) nd
    revert nd2
    rw [e] at so
    generalize (ys.map fun s => s.cps.toList) = zs at so
    intro nd2
    cases zs with
    | nil => exact List.Pairwise.nil
    | cons z zs => exact rising_pw zs z nd2 so
  · constructor
    · intro m
      obtain ⟨s, m1, rfl⟩ := List.mem_map.mp m
      obtain ⟨l, m2, rfl⟩ := List.mem_map.mp ((mem s).mp m1)
      simpa using m2
    · intro m
      exact List.mem_map.mpr ⟨tx l, (mem _).mpr (List.mem_map.mpr ⟨l, m, rfl⟩), by simp⟩
  · rw [List.length_map, pm.length_eq]
    have := once_len (ls.map tx) []
    simpa using this
/-- sorted(set(xs)): xs texts, under 64 of them; strictly ascending -/
def tSS (K : PySem.W.Frag) (te : TE) : TE := fun σ H Q => te σ H fun v H1 => ∃ (a : Addr) (ls : List (List Nat)), v = .ref a ∧ SqL K H1 a (ls.map Tx) ∧ ls.length < 4000 ∧
  ∀ (zs : List (List Nat)) (p : Addr), zs.Pairwise (· < ·) → (∀ l, l ∈ zs ↔ l ∈ ls) → zs.length ≤ ls.length → H1 p = none → Q (.ref p) (upd H1 p (.lst (zs.map Tx)))
theorem pe_sortset {X : Cx} {e : Expr} {te : TE} {p p2 pos pos2 : Pos} (hh : X.A.handled = none) (g1 : Gl X "sorted") (m1 : X.mg "sorted" = none) (g2 : Gl X "set") (m2 : X.mg "set" = none) (he : PE X e te)
    (hs : starEach [e] X.env = (false, eval e X.env) :: starEach [] X.env := by rfl)
    (hs2 : starEach [Expr.Call (.Name "set" p2) [e] [] pos2] X.env = (false, eval (Expr.Call (.Name "set" p2) [e] [] pos2) X.env) :: starEach [] X.env := by rfl) :
    PE X (.Call (.Name "sorted" p) [.Call (.Name "set" p2) [e] [] pos2] [] pos) (tSS X.K te) := by
  refine ⟨fun pins s σ H Q I h => ?_⟩
  refine wpAny_Call_Name_kw (ld_blt I g1 m1 (by rfl) ?_ (by decide) (by decide))
  refine PyProof.Rows.callWith_builtin1 ?_ hs2 (by rfl)
  rw [hs2]
  show wpAny _ _ (spliced ((false, eval (Expr.Call (.Name "set" p2) [e] [] pos2) X.env) :: backTo pos (starEach [] X.env))) _ _ s
  refine Calls.spliced_cons ?_
  refine wpAny_Call_Name_kw (ld_blt I g2 m2 (by rfl) ?_ (by decide) (by decide))
  refine PyProof.Rows.callWith_type1 ?_ hs (by rfl)
  rw [hs]
  show wpAny _ _ (spliced ((false, eval e X.env) :: backTo pos2 (starEach [] X.env))) _ _ s
  refine Calls.spliced_cons (thn (he.run pins s σ H _ I h) fun u s1 ⟨v, H1, I1, r1, q1⟩ => Calls.spliced_nil ?_)
  obtain ⟨a, ls, rfl, hl, few, q⟩ := q1
  obtain rfl : u = .ref a := r1
  obtain ⟨its, rv, pl, _⟩ := I1.list hl
  have st : StrsAre its.toArray.toList (ls.map tx) := by
    have : ls.map Tx = (ls.map tx).map V.str := by rw [List.map_map]; rfl
    rw [this] at rv
    exact rv.strs
  refine call_set_txt hh pl.isList st (by rw [List.length_map]; exact Nat.lt_of_lt_of_le (Nat.succ_lt_succ few) (by decide)) fun h' tk S k => ?_
  refine Calls.spliced_nil ?_
  have few2 : (onceL [] (ls.map tx)).length < 4000 := by
    have := once_len (ls.map tx) []
    rw [List.length_map] at this
    simp at this
    omega
  refine sorted_txt (s := { s1 with heap := h', toks := tk }) S hh few2 fun z p out n ys k2 hg ho hp hat hst pm so => ?_
  obtain ⟨zs, rfl, pw, mem, len⟩ := sorted_pw pm so
  have k3 : ∀ b u, s1.heap.get? b = some u → z.heap.get? b = some u := fun b u e => k2 b u (k b u e)
  have sz : s1.heap.objs.size ≤ p := by
    obtain ⟨D, at_, _⟩ := S
    exact Nat.le_trans (Nat.le_of_lt (Heap.lt_size at_)) hp
  have fr := I1.hok.fresh sz
  refine ⟨.ref p, upd H1 p (.lst (zs.map Tx)), ?_, rfl, q zs p pw mem len fr⟩
  have ok : ObjOk X.prog X.w (upd H1 p (.lst (zs.map Tx))) z.heap p (.lst (zs.map Tx)) :=
    ⟨by rw [List.length_map]; exact Nat.le_trans len (Nat.le_of_lt (Nat.lt_of_lt_of_le few (by decide))), out.toList, n, by
      have := vals_of_strs hst
      rw [List.map_map] at this
      exact this, hat⟩
  exact I1.call' (ch := []) ho (Un.laid k3 sz fr) (I1.hok.laid k3 sz ok) (by rw [hg]; exact I1.bare) (fun b z => absurd z (by simp))
end Pg
namespace Pg
open PySem PySem.Spec PyProof.Rows L2
/-! ### comprehensions that give values -/
theorem sql_up {K : PySem.W.Frag} {H H' : Hp} {a : Addr} {xs : List V} (s : Stp [] H H') (h : SqL K H a xs) : SqL K H' a xs := by
  rcases h with (h | ⟨o, h⟩) | h
  · exact .inl (.inl (s.kp _ _ (fun m => nomatch m) h))
  · exact .inl (.inr ⟨o, s.kp _ _ (fun m => nomatch m) h⟩)
  · exact .inr h
theorem ix_listK {X : Cx} {K : PySem.W.Frag} (hK : X.K = K) : IxR X (rIxL K) := by
  subst hK
  exact ix_list
theorem tn {σ : L2.St} {H : Hp} {Q : List V → Hp → Prop} (h : Q [] H) : tNil σ H Q := h
theorem RpL.snoc {K : PySem.W.Frag} {H : Hp} {vs : List V} {ds : List Dt} {i : Nat} {v : V} {d : Dt} (r : RpL K H vs (ds.take i)) (e : ds[i]? = some d) (h : Rp K H v d) : RpL K H (vs ++ [v]) (ds.take (i + 1)) := by
  rw [List.take_add_one, e]
  exact r.app (.cons h .nil)
theorem rpl_strs {K : PySem.W.Frag} {H : Hp} : ∀ {ls : List (List Nat)} {vs : List V}, RpL K H vs (ls.map Dt.str) → vs = ls.map Tx
  | [], _, .nil => rfl
  | l :: ls, _, .cons h r => by
    cases h
    rw [List.map_cons, rpl_strs r]
theorem rpl_bls {K : PySem.W.Frag} {H : Hp} : ∀ {bs : List Bool} {vs : List V}, RpL K H vs (bs.map Dt.bl) → vs = bs.map V.bl
  | [], _, .nil => rfl
  | b :: bs, _, .cons h r => by
    cases h
    rw [List.map_cons, rpl_bls r]
section
variable {K : PySem.W.Frag} {a : Addr} {xs : List V} {ds : List Dt} {g : TG} {te : TE} {vs : List Nat} {σ : L2.St} {H1 : Hp} {D : Addr} {Qd : Hp → Prop}
theorem lc_mapL (nD : H1 D = none) (hs : SqL K H1 a xs) (hl : ds.length = xs.length) (hz : xs.length ≤ 90000)
    (step : ∀ (i : Nat) x d H, xs[i]? = some x → ds[i]? = some d → Stp [] H1 H → ∀ Q : VK, (∀ y H', Stp [] H H' → Rp K H' y d → Q y H') → g x (wipe σ vs) H fun σ2 H2 => wipe σ2 vs = wipe σ vs ∧ te σ2 H2 Q)
    (hd : ∀ ws H, Stp [] H1 H → H D = some (.lst ws) → RpL K H ws ds → Qd H) :
    ∃ W : Nat → Nat → Hp → Prop, (∃ m, W 0 m (upd H1 D (.lst []))) ∧ ∀ i m H, W i m H →
      ((Itl K a).stop i H ∧ Qd H) ∨ ((Itl K a).go i H ∧ ∃ Nx : Hp → Prop, (∀ H', Nx H' → ∃ m', m' < m ∧ W (i + 1) m' H') ∧ ∀ x H', (Itl K a).yld i H x H' → g x (wipe σ vs) H' fun σ2 H2 => wipe σ2 vs = wipe σ vs ∧ tYes σ2 H2 fun b H3 =>
        if b = true then te σ2 H3 fun y H4 => ∃ acc, H4 D = some (.lst acc) ∧ acc.length < sizeLine ∧ Nx (upd H4 D (.lst (acc ++ [y]))) else Nx H3) := by
  refine lc_list (a := a) (xs := xs) (fun i H => ∃ ws, H D = some (.lst ws) ∧ RpL K H ws (ds.take i) ∧ Stp [] H1 H) ⟨[], upd_same, .nil, Stp.new nD _⟩ (fun i H _ ⟨_, _, _, S⟩ => sql_up S hs) ?_ ?_
  · rintro i x H hi ⟨ws, hL, rv, S⟩
    have il : i < ds.length := by rw [hl]; exact (List.getElem?_eq_some_iff.mp hi).1
    refine step i x ds[i] H hi (List.getElem?_eq_getElem il) S _ fun y H' S' ry => ?_
    refine ⟨ws, S'.kp _ _ (fun m => nomatch m) hL, ?_, ws ++ [y], upd_same, ?_, (S.trans S').mut nD⟩
    · rw [rv.len, List.length_take]
      exact Nat.lt_of_le_of_lt (show min i ds.length ≤ 90000 by omega) (by decide)
    · have s4 : Stp [D] H' (upd H' D (.lst (ws ++ [y]))) := Stp.put (by simp)
      have hL' := S'.kp _ _ (fun m => nomatch m) hL
      exact RpL.snoc ((rv.stp S' Lsts.nil).stp s4 (.one hL')) (List.getElem?_eq_getElem il) (ry.stp s4 (.one hL'))
  · rintro H ⟨ws, hL, rv, S⟩
    rw [← hl, List.take_length] at rv
    exact hd ws H S hL rv
theorem lc_mapT (nD : H1 D = none) (hs : SqT K H1 a xs) (hl : ds.length = xs.length) (hz : xs.length ≤ 90000)
    (step : ∀ (i : Nat) x d H, xs[i]? = some x → ds[i]? = some d → Stp [] H1 H → ∀ Q : VK, (∀ y H', Stp [] H H' → Rp K H' y d → Q y H') → g x (wipe σ vs) H fun σ2 H2 => wipe σ2 vs = wipe σ vs ∧ te σ2 H2 Q)
    (hd : ∀ ws H, Stp [] H1 H → H D = some (.lst ws) → RpL K H ws ds → Qd H) :
    ∃ W : Nat → Nat → Hp → Prop, (∃ m, W 0 m (upd H1 D (.lst []))) ∧ ∀ i m H, W i m H →
      ((Itt K a).stop i H ∧ Qd H) ∨ ((Itt K a).go i H ∧ ∃ Nx : Hp → Prop, (∀ H', Nx H' → ∃ m', m' < m ∧ W (i + 1) m' H') ∧ ∀ x H', (Itt K a).yld i H x H' → g x (wipe σ vs) H' fun σ2 H2 => wipe σ2 vs = wipe σ vs ∧ tYes σ2 H2 fun b H3 =>
        if b = true then te σ2 H3 fun y H4 => ∃ acc, H4 D = some (.lst acc) ∧ acc.length < sizeLine ∧ Nx (upd H4 D (.lst (acc ++ [y]))) else Nx H3) := by
  refine lc_tup (a := a) (xs := xs) (fun i H => ∃ ws, H D = some (.lst ws) ∧ RpL K H ws (ds.take i) ∧ Stp [] H1 H) ⟨[], upd_same, .nil, Stp.new nD _⟩ (fun i H _ ⟨_, _, _, S⟩ => sqt_stp S Lsts.nil hs) ?_ ?_
  · rintro i x H hi ⟨ws, hL, rv, S⟩
    have il : i < ds.length := by rw [hl]; exact (List.getElem?_eq_some_iff.mp hi).1
    refine step i x ds[i] H hi (List.getElem?_eq_getElem il) S _ fun y H' S' ry => ?_
    refine ⟨ws, S'.kp _ _ (fun m => nomatch m) hL, ?_, ws ++ [y], upd_same, ?_, (S.trans S').mut nD⟩
    · rw [rv.len, List.length_take]
      exact Nat.lt_of_le_of_lt (show min i ds.length ≤ 90000 by omega) (by decide)
    · have s4 : Stp [D] H' (upd H' D (.lst (ws ++ [y]))) := Stp.put (by simp)
      have hL' := S'.kp _ _ (fun m => nomatch m) hL
      exact RpL.snoc ((rv.stp S' Lsts.nil).stp s4 (.one hL')) (List.getElem?_eq_getElem il) (ry.stp s4 (.one hL'))
  · rintro H ⟨ws, hL, rv, S⟩
    rw [← hl, List.take_length] at rv
    exact hd ws H S hL rv
theorem lc_mapR {n : Nat} (nD : H1 D = none) (hl : ds.length = n) (hz : n ≤ 90000)
    (step : ∀ (i : Nat) d H, ds[i]? = some d → Stp [] H1 H → ∀ Q : VK, (∀ y H', Stp [] H H' → Rp K H' y d → Q y H') → g (.int ((0 : Int) + (i : Int))) (wipe σ vs) H fun σ2 H2 => wipe σ2 vs = wipe σ vs ∧ te σ2 H2 Q)
    (hd : ∀ ws H, Stp [] H1 H → H D = some (.lst ws) → RpL K H ws ds → Qd H) :
    ∃ W : Nat → Nat → Hp → Prop, (∃ m, W 0 m (upd H1 D (.lst []))) ∧ ∀ i m H, W i m H →
      ((Itr 0 n).stop i H ∧ Qd H) ∨ ((Itr 0 n).go i H ∧ ∃ Nx : Hp → Prop, (∀ H', Nx H' → ∃ m', m' < m ∧ W (i + 1) m' H') ∧ ∀ x H', (Itr 0 n).yld i H x H' → g x (wipe σ vs) H' fun σ2 H2 => wipe σ2 vs = wipe σ vs ∧ tYes σ2 H2 fun b H3 =>
        if b = true then te σ2 H3 fun y H4 => ∃ acc, H4 D = some (.lst acc) ∧ acc.length < sizeLine ∧ Nx (upd H4 D (.lst (acc ++ [y]))) else Nx H3) := by
  refine lc_range (lo := 0) (n := n) (fun i H => ∃ ws, H D = some (.lst ws) ∧ RpL K H ws (ds.take i) ∧ Stp [] H1 H) ⟨[], upd_same, .nil, Stp.new nD _⟩ ?_ ?_
  · rintro i H hi ⟨ws, hL, rv, S⟩
    have il : i < ds.length := by rw [hl]; exact hi
    refine step i ds[i] H (List.getElem?_eq_getElem il) S _ fun y H' S' ry => ?_
    refine ⟨ws, S'.kp _ _ (fun m => nomatch m) hL, ?_, ws ++ [y], upd_same, ?_, (S.trans S').mut nD⟩
    · rw [rv.len, List.length_take]
      exact Nat.lt_of_le_of_lt (show min i ds.length ≤ 90000 by omega) (by decide)
    · have s4 : Stp [D] H' (upd H' D (.lst (ws ++ [y]))) := Stp.put (by simp)
      have hL' := S'.kp _ _ (fun m => nomatch m) hL
      exact RpL.snoc ((rv.stp S' Lsts.nil).stp s4 (.one hL')) (List.getElem?_eq_getElem il) (ry.stp s4 (.one hL'))
  · rintro H ⟨ws, hL, rv, S⟩
    rw [← hl, List.take_length] at rv
    exact hd ws H S hL rv
end
end Pg
namespace Pg
open PySem PySem.Spec PyProof.Rows L2
/-- a new object is changed -/
theorem Stp.mutO {S : List Addr} {H H' : Hp} {p : Addr} {o : HO} (a : Stp S H H') (h : H p = none) : Stp S H (upd H' p o) :=
  ⟨fun x u n q => by
    rw [upd_ne (ne_of_none q h)]
    exact a.kp x u n q, fun x xs q => by
    rw [upd_ne (ne_of_none q h)]
    exact a.ls x xs q⟩
/-- sorted(xs), texts, any number of them -/
def rSortedSA (K : PySem.W.Frag) : List V → Hp → VK → Prop := fun vs H Q => ∃ (a : Addr) (ls : List (List Nat)), vs = [V.ref a] ∧ SqL K H a (ls.map Tx) ∧
  ∀ (zs : List (List Nat)) (p : Addr), zs.Perm ls → zs.Pairwise (· ≤ ·) → H p = none → Q (.ref p) (upd H p (.lst (zs.map Tx)))
theorem rising_le : ∀ (zs : List (List Nat)) (p : List Nat), risingS (tx p) (zs.map tx) = true → (p :: zs).Pairwise (· ≤ ·)
  | [], p, _ => List.pairwise_singleton _ _
  | z :: zs, p, h => by
    have h' : (!ltCps z p && risingS (tx z) (zs.map tx)) = true := by simpa [risingS] using h
    rw [ltCps_eq] at h'
    obtain ⟨h1, h2⟩ := Bool.and_eq_true_iff.mp h'
    have ih := rising_le zs z h2
    have pz : p ≤ z := List.not_lt.mp (by simpa using h1)
    refine List.pairwise_cons.mpr ⟨fun y m => ?_, ih⟩
    rcases List.mem_cons.mp m with rfl | m
    · exact pz
    · exact List.le_trans pz ((List.pairwise_cons.mp ih).1 y m)
theorem cr_sortedSA {X : Cx} : CallR X (.builtin "sorted") (rSortedSA X.K) := by
  intro pins s σ H vs us Q I r h
  obtain ⟨a, ls, rfl, hs, q⟩ := h
  obtain ⟨its, rv, hl, hz⟩ := I.list hs
  rw [Vals.ref1 r]
  have st : StrsAre its (ls.map tx) := by
    have : ls.map Tx = (ls.map tx).map V.str := by rw [List.map_map]; rfl
    rw [this] at rv
    exact rv.strs
  refine sorted_strsAny hl.isList st (by rw [← rv.length]; exact hz) fun out ys h1 h2 h3 => ?_
  have e : ys = (ys.map fun s => s.cps.toList).map tx := by
    rw [List.map_map]
    conv => lhs; rw [← List.map_id ys]
    rfl
  have pm : (ys.map fun s => s.cps.toList).Perm ls := by
    have := h2.map fun s : Str => s.cps.toList
    rw [List.map_map] at this
    refine this.trans (List.Perm.of_eq ?_)
    conv => rhs; rw [← List.map_id ls]
    refine List.map_congr_left fun l _ => ?_
    simp
  have so : (ys.map fun s => s.cps.toList).Pairwise (· ≤ ·) := by
    rw [e] at h3
    generalize (ys.map fun s => s.cps.toList) = zs at h3
    cases zs with
    | nil => exact List.Pairwise.nil
    | cons z zs => exact rising_le zs z h3
  obtain ⟨ep, he'⟩ := PyProof.Rows.sortedAll_at s.heap its out
  rw [e] at h1
  have hv := vals_of_strs h1
  rw [List.map_map] at hv
  have hv : Vals ((ys.map fun s => s.cps.toList).map Tx) out.toList := hv
  have hlen : ((ys.map fun s => s.cps.toList).map Tx).length ≤ sizeLine := by
    rw [List.length_map, pm.length_eq]
    rw [List.length_map] at hz
    exact hz
  exact ⟨.ref _, upd H (s.heap.objs.size + 1) (.lst ((ys.map fun s => s.cps.toList).map Tx)), I.laid (t' := s.toks) (fun _ _ => PyProof.Rows.sortedAll_old) (Nat.le_succ _) ⟨hlen, out.toList, ep, hv, he'⟩, rfl, q _ _ pm so (I.hok.fresh (Nat.le_succ _))⟩
end Pg
namespace Pg
open PySem PySem.Spec PyProof.Rows L2
theorem RpL.rev {K : PySem.W.Frag} {H : Hp} : ∀ {vs : List V} {ds : List Dt}, RpL K H vs ds → RpL K H vs.reverse ds.reverse
  | _, [], .nil => .nil
  | _, _ :: _, .cons h r => by
    rw [List.reverse_cons, List.reverse_cons]
    exact RpL.app (RpL.rev r) (.cons h .nil)
theorem RpL.erase {K : PySem.W.Frag} {H : Hp} {α : Type} {f : α → Dt} : ∀ {vs : List V} {ps : List α} {k : Nat}, RpL K H vs (ps.map f) → RpL K H (vs.eraseIdx k) ((ps.eraseIdx k).map f)
  | _, [], _, .nil => .nil
  | _, _ :: _, 0, .cons _ r => r
  | _, _ :: _, k + 1, .cons h r => .cons h (RpL.erase (k := k) r)
theorem seqIx {n : Nat} {d : Int} (h0 : 0 ≤ d) (h1 : d < (n : Int)) : seqIndex? d n = some d.toNat := (ixN_seq (by unfold ixN; rw [if_pos h0, if_pos h1])).1
/-! ### t[::-1] -/
section
variable {prog : Program} {w : World} {A : Around} {E : Value → Shared → Prop} {s : Shared}
open HT
theorem sliceApplied_rev {sl : Addr} {vl vu vs : Value} {n : Nat} {Q : Int × Int × Nat → Shared → Prop} (hs : s.heap.IsSliceOf sl vl vu vs) (pl : IsPart vl none) (pu : IsPart vu none) (ps : IsPart vs (some (-1)))
    (h : Q ((n : Int) - 1, -1, n) s) : wpAny (model prog w) A (Builtin.Slice.sliceApplied (.ref sl) (pure (n : Int))) Q E s := by
  obtain ⟨os, hos, hcs, hds⟩ := id hs
  unfold Builtin.Slice.sliceApplied Builtin.Slice.sliceFields
  refine wpAny_bind (wpAny_bind (wpAny_field hos hds (x := vl) rfl (wpAny_bind (wpAny_field hos hds (x := vu) rfl (wpAny_bind (wpAny_field hos hds (x := vs) rfl (wpAny_pure ?_)))))))
  refine wpAny_bind (slicePart_ ps ?_)
  show wpAny _ _ (if ((-1 : Int) == 0) = true then _ else _) _ _ s
  rw [if_neg (by decide)]
  refine wpAny_bind (slicePart_ pl (wpAny_bind (slicePart_ pu (wpAny_bind (wpAny_pure ?_)))))
  show wpAny _ _ (pure ((n : Int) - 1, (-1 : Int), Builtin.Slice.slicePlaces ((n : Int) - 1) (-1) (-1))) _ _ s
  have e : Builtin.Slice.slicePlaces ((n : Int) - 1) (-1) (-1) = n := by
    unfold Builtin.Slice.slicePlaces
    rw [if_neg (by decide)]
    by_cases c : (n : Int) - 1 > -1
    · rw [if_pos c, show (- -1 : Int) = 1 by decide, Int.ediv_one]
      omega
    · rw [if_neg c]
      omega
  rw [e]
  exact wpAny_pure h
theorem pick_rev (xs : Array Value) : ((List.range xs.size).filterMap fun (k : Nat) => xs[((xs.size : Int) - 1 + (k : Int) * (-1)).toNat]?).toArray = xs.toList.reverse.toArray := by
  have e : (fun (k : Nat) => xs[((xs.size : Int) - 1 + (k : Int) * (-1)).toNat]?) = (fun k => xs[xs.size - 1 - k]?) := by
    funext k
    have : ((xs.size : Int) - 1 + (k : Int) * (-1)).toNat = xs.size - 1 - k := by omega
    rw [this]
  rw [e]
  have e2 : (fun k => xs[xs.size - 1 - k]?) = (fun k => xs[k]?) ∘ fun k => xs.size - 1 - k := rfl
  rw [e2, ← List.filterMap_map, PySem.W.krv_range, List.filterMap_reverse, PySem.W.krv_all]
theorem getItem_tuple_rev {t sl : Addr} {items : Array Value} {vl vu vs : Value} {Q : Value → Shared → Prop} (ht : IsTup s.heap t items) (hs : s.heap.IsSliceOf sl vl vu vs) (pl : IsPart vl none) (pu : IsPart vu none) (ps : IsPart vs (some (-1)))
    (h : Q (.ref s.heap.objs.size) { s with heap := s.heap.push { cls := .type "tuple", data := .seq items.toList.reverse.toArray } })
    (hsz : items.size ≤ sizeLine) : wpAny (model prog w) A (getItem (.ref t) (.ref sl)) Q E s := by
  have htake : sizeOk (.seq items.toList.reverse.toArray) := by
    show items.toList.reverse.toArray.size ≤ sizeLine
    rw [List.size_toArray, List.length_reverse, Array.length_toList]
    exact hsz
  obtain ⟨os, hos, hcs, hds⟩ := id hs
  have hTs : s.TypeIs (.ref sl) "slice" := ⟨os, hos, hcs⟩
  unfold getItem
  try with_reducible refine wpAny_holding ?_
  first | refine wpAny_bind (wpAny_pure ?_) | skip
  refine wpAny_bind (wpAny_sequenceKey ht.typeIs (by decide) ?_)
  refine wpAny_bind (wpAny_callSpecial?_slot (name := Str.ofString "__getitem__") ht.typeIs PyProof.Rows.slot_tuple_getitem
    (wpAny_call_entry PyProof.Rows.slot_tuple_getitem ht.typeIs entry_tuple_getitem ?_ (args_tuple_getitem _ _)))
  show wpAny _ _ (Builtin.Tuple.tupleItemsOf (.ref t) >>= _) _ _ s
  refine wpAny_bind (tupleItemsOf_ ht ?_)
  refine wpAny_bind (wpAny_typeOf hTs ?_)
  rw [if_pos (by decide)]
  refine wpAny_bind (sliceApplied_rev hs pl pu ps ?_)
  have hno : ¬ ((((items.size : Int) - 1) == 0 && (-1 : Int) == 1 && items.size == items.size) = true) := by
    intro q
    rw [Bool.and_eq_true, Bool.and_eq_true] at q
    exact absurd q.1.2 (by decide)
  show wpAny _ _ (if (((items.size : Int) - 1) == 0 && (-1 : Int) == 1 && items.size == items.size) = true then _ else _) _ _ s
  rw [if_neg hno, pick_rev]
  first
    | exact wpAny_bind (m := Builtin.Tuple.tupleExact _) (wpAny_newObj_type (wpAny_pure ⟨_, rfl, wpAny_pure h⟩) htake)
    | exact wpAny_bind (m := Builtin.Tuple.tupleExact _) (wpAny_newObj_type (wpAny_bind (wpAny_pure (wpAny_pure ⟨_, rfl, wpAny_pure h⟩))) htake)
    | exact wpAny_bind (wpAny_bind (m := Builtin.Tuple.tupleExact _) (wpAny_newObj_type (wpAny_pure (wpAny_pure ⟨_, rfl, wpAny_pure h⟩)) htake))
    | exact wpAny_bind (wpAny_bind (m := Builtin.Tuple.tupleExact _) (wpAny_newObj_type (wpAny_pure ⟨_, rfl, wpAny_pure h⟩) htake))
end
section
variable {X : Cx}
def tRevT (K : PySem.W.Frag) (te : TE) : TE := fun σ H Q => te σ H fun x H1 => ∃ a xs, x = .ref a ∧ SqT K H1 a xs ∧ ∀ p, H1 p = none → Q (.ref p) (upd H1 p (.tup xs.reverse))
theorem pe_revT {e : Expr} {te : TE} {k : Nat} {p1 p2 p3 pos : Pos} (he : PE X e te) : PE X (.Subscript e (.Slice none none (some (.UnaryOp .USub (.Constant (.int 1) k p1) p2)) p3) pos) (tRevT X.K te) := by
  refine ⟨fun pins s σ H Q I h => ?_⟩
  refine Subscript_ (thn (he.run pins s σ H _ I h) fun v s1 ⟨x, H1, I1, r1, q1⟩ => ?_)
  obtain ⟨a, xs, ex, hx, q⟩ := q1
  subst ex
  cases r1
  have hst : PO X (some (.UnaryOp .USub (.Constant (.int 1) k p1) p2)) (tPart (tUn (rU fun i => .int (-i)) (tC (.int 1)))) := po_some (pe_un un_neg pe_int)
  refine wpAny_Slice (thn (po_none.run pins s1 σ H1 (fun o H2 => o = none ∧ H2 = H1) I1 ⟨rfl, rfl⟩) fun vl s2 ⟨l, H2, I2, pl, el, e2⟩ => ?_)
  subst el e2
  refine thn (po_none.run pins s2 σ H2 (fun o H3 => o = none ∧ H3 = H2) I2 ⟨rfl, rfl⟩) fun vu s3 ⟨u, H3, I3, pu, eu, e3⟩ => ?_
  subst eu e3
  refine thn (hst.run pins s3 σ H3 (fun o H4 => o = some (-1) ∧ H4 = H3) I3 ⟨1, rfl, -1, rfl, rfl, rfl⟩) fun vs s4 ⟨o, H4, I4, ps, eo, e4⟩ => ?_
  subst eo e4
  have I5 : Inv X pins σ H4 { s4 with heap := s4.heap.push { cls := .type "slice", data := .fields #[vl, vu, vs] } } := I4.kept (t' := s4.toks) fun b ob q => Heap.get?_push_of_some _ q
  obtain ⟨its, r, ht, hz⟩ := I5.tuple hx
  have hlen := r.length
  show wpAny (model X.prog X.w) X.A (subscriptTail e (.Slice none none (some (.UnaryOp .USub (.Constant (.int 1) k p1) p2)) p3) (.ref a) (.ref s4.heap.objs.size)) (EP X pins σ Q) X.xe { s4 with heap := s4.heap.push { cls := .type "slice", data := .fields #[vl, vu, vs] } }
  refine tail_any (ops := [.ref a, .ref s4.heap.objs.size]) ht.typeIs (PyProof.Rows.slot_tuple_getitem.lookup) ?_ (by with_unfolding_all rfl)
  refine getItem_tuple_rev ht (Heap.IsSliceOf.new _ vl vu vs) pl pu ps ?_ (by rw [List.size_toArray]; omega)
  refine ⟨.ref _, _, I5.laid (t' := s4.toks) (o := .tup xs.reverse) (fun b ob q => Heap.get?_push_of_some _ q) (Nat.le_refl _) ?_, rfl, q _ (I5.hok.fresh (Nat.le_refl _))⟩
  exact ⟨by rw [List.length_reverse]; exact hz, _, r.reverse, IsTup.new _ _⟩
end
end Pg
namespace Pg
open PySem PySem.Spec PyProof.Rows L2
theorem pe_clG0 {X : Cx} {j k : Nat} {st : Stmt} {ps : List Str} {sp : Sp} {x : Str} {p pos : Pos} (c : ClG X.prog X.w X.K X.mg X.base k x st ps sp) (hG : X.A.guards = some []) (hr : Room j X.A) (hk : k ≤ j) (hg : Gl X x := by rfl) (hdb : (x == ("__debug__" : Str)) = false := by decide) :
    PE X (.Call (.Name x p) [] [] pos) (tCl sp tNil) := by
  obtain ⟨f, fd, D, F⟩ := c.ex
  refine ⟨fun pins s σ H Q I h => ?_⟩
  refine wpAny_Call_Name_kw (ld_glob I hg D.at_ ?_ hdb)
  exact PySem.W.callWith_K0 I.kIn D.fn.kp (run_g (us := []) (F.mono hk) hG hr D.bd I .nil h)
end Pg
namespace Pv
open PySem PySem.Spec PyProof.Rows L2 Pg
/-! ### values as data, told by repr -/
mutual
def D.py : D → PyData
  | .non => .none
  | .bl b => .bool b
  | .int i => .int i
  | .str l => .str (tx l)
  | .tup ds => .tuple (D.pys ds)
  | .lst ds => .list (D.pys ds)
  | .obj _ => .none
def D.pys : List D → List PyData
  | [] => []
  | d :: ds => d.py :: D.pys ds
end
mutual
/-- signs at most -/
def D.wt : D → Nat
  | .non => 4
  | .bl _ => 5
  | .int _ => 12
  | .str l => 10 * l.length + 2
  | .tup ds => D.wts ds + 4
  | .lst ds => D.wts ds + 4
  | .obj _ => 0
def D.wts : List D → Nat
  | [] => 0
  | d :: ds => d.wt + 2 + D.wts ds
end
mutual
def D.deep : D → Nat
  | .tup ds => D.deeps ds + 1
  | .lst ds => D.deeps ds + 1
  | _ => 0
def D.deeps : List D → Nat
  | [] => 0
  | d :: ds => max d.deep (D.deeps ds)
end
mutual
/-- no objects, small numbers, signs that are signs -/
def D.fair : D → Bool
  | .non => true
  | .bl _ => true
  | .int i => decide (i.natAbs < 10 ^ 10)
  | .str l => l.all fun n => decide (n < 16 ^ 8)
  | .tup ds => D.fairs ds
  | .lst ds => D.fairs ds
  | .obj _ => false
def D.fairs : List D → Bool
  | [] => true
  | d :: ds => d.fair && D.fairs ds
end
section
variable {K : PySem.W.Frag} {S : List Addr} {H : Hp}
mutual
theorem rv_dp : ∀ {v : V} {d : D}, Rv K S H v d → d.fair = true → Dp K H v d.py
  | _, .non, .non, _ => by unfold D.py; exact .non
  | _, .bl _, .bl b, _ => by unfold D.py; exact .bl b
  | _, .int _, .int i, _ => by unfold D.py; exact .int i
  | _, .str _, .str x h, _ => by unfold D.py; exact .str _
  | _, .tup ds, .tup h n r, f => by
    unfold D.py
    unfold D.fair at f
    exact .tup h (rvs_dp r f)
  | _, .lst ds, .lst h o n r, f => by
    unfold D.py
    unfold D.fair at f
    exact .lst (SqL.of h) (rvs_dp r f)
  | _, .obj _, .obj _ _, f => by
    unfold D.fair at f
    cases f
theorem rvs_dp : ∀ {vs : List V} {ds : List D}, RvL K S H vs ds → D.fairs ds = true → DpAll K H vs (D.pys ds)
  | _, [], .nil, _ => by unfold D.pys; exact .nil
  | _, _ :: _, .cons h r, f => by
    unfold D.pys
    unfold D.fairs at f
    obtain ⟨f1, f2⟩ := Bool.and_eq_true_iff.mp f
    exact .cons (rv_dp h f1) (rvs_dp r f2)
end
end
mutual
theorem D.shw : ∀ (d : D), d.fair = true → d.py.showable = true
  | .non, _ => by unfold D.py; simp only [PyData.showable]
  | .bl _, _ => by unfold D.py; simp only [PyData.showable]
  | .int i, f => by
    unfold D.py
    unfold D.fair at f
    simp only [PyData.showable]
    have h := of_decide_eq_true f
    refine decide_eq_true ?_
    by_cases z : i.natAbs = 0
    · rw [z]; decide
    · exact (Nat.log2_lt z).mpr (Nat.lt_trans h (by decide +kernel))
  | .str _, _ => by unfold D.py; simp only [PyData.showable]
  | .tup ds, f => by
    unfold D.py
    unfold D.fair at f
    simp only [PyData.showable]
    exact D.shws ds f
  | .lst ds, f => by
    unfold D.py
    unfold D.fair at f
    simp only [PyData.showable]
    exact D.shws ds f
  | .obj _, f => by
    unfold D.fair at f
    cases f
theorem D.shws : ∀ (ds : List D), D.fairs ds = true → PyData.showableAll (D.pys ds) = true
  | [], _ => by unfold D.pys; simp only [PyData.showableAll]
  | d :: ds, f => by
    unfold D.pys
    unfold D.fairs at f
    obtain ⟨f1, f2⟩ := Bool.and_eq_true_iff.mp f
    simp only [PyData.showableAll, D.shw d f1, D.shws ds f2, Bool.and_self]
end
mutual
theorem D.dpt : ∀ (d : D), d.py.depth = d.deep
  | .non => by unfold D.py D.deep; rfl
  | .bl _ => by unfold D.py D.deep; rfl
  | .int _ => by unfold D.py D.deep; rfl
  | .str _ => by unfold D.py D.deep; rfl
  | .obj _ => by unfold D.py D.deep; rfl
  | .tup ds => by
    unfold D.py D.deep
    show PyData.depthAll _ + 1 = _
    rw [D.dpts ds]
  | .lst ds => by
    unfold D.py D.deep
    show PyData.depthAll _ + 1 = _
    rw [D.dpts ds]
theorem D.dpts : ∀ (ds : List D), PyData.depthAll (D.pys ds) = D.deeps ds
  | [] => by unfold D.pys D.deeps; rfl
  | d :: ds => by
    unfold D.pys D.deeps
    show max d.py.depth (PyData.depthAll (D.pys ds)) = _
    rw [D.dpt d, D.dpts ds]
end
mutual
theorem D.sgn : ∀ (d : D), d.fair = true → d.py.shown.length ≤ d.wt
  | .non, _ => by
    unfold D.py D.wt
    simp only [PyData.shown]
    decide
  | .bl b, _ => by
    unfold D.py D.wt
    cases b <;> simp only [PyData.shown] <;> decide
  | .int i, f => by
    unfold D.py D.wt
    unfold D.fair at f
    simp only [PyData.shown]
    have h := int_text_length_le10 (k := 10) (by decide) (of_decide_eq_true f)
    show (Str.ofString (toString i)).length ≤ 12
    rw [PySem.ofString_length]
    omega
  | .str l, f => by
    unfold D.py D.wt
    unfold D.fair at f
    simp only [PyData.shown]
    have := StrLaws.reprText_len (tx l) (fun c m => of_decide_eq_true (List.all_eq_true.mp f c (by simpa using m)))
    rw [tx_len] at this
    exact this
  | .tup ds, f => by
    unfold D.py D.wt
    unfold D.fair at f
    simp only [PyData.shown]
    have a := tupleText_le (PyData.shownAll (D.pys ds))
    have b := D.sgns ds f
    omega
  | .lst ds, f => by
    unfold D.py D.wt
    unfold D.fair at f
    simp only [PyData.shown]
    have a := listText_le (PyData.shownAll (D.pys ds))
    have b := D.sgns ds f
    omega
  | .obj _, f => by
    unfold D.fair at f
    cases f
theorem D.sgns : ∀ (ds : List D), D.fairs ds = true → ((PyData.shownAll (D.pys ds)).map fun t => t.length + 2).sum ≤ D.wts ds
  | [], _ => by
    unfold D.pys D.wts
    simp only [PyData.shownAll]
    decide
  | d :: ds, f => by
    unfold D.pys D.wts
    unfold D.fairs at f
    obtain ⟨f1, f2⟩ := Bool.and_eq_true_iff.mp f
    have p := D.sgn d f1
    have q := D.sgns ds f2
    simp only [PyData.shownAll, List.map_cons, List.sum_cons]
    omega
end
/-- what repr tells of a value -/
def D.told (d : D) : Str := d.py.shown
structure D.Fine (d : D) : Prop where
  fair : d.fair = true
  deep : d.deep ≤ 100
  wt : d.wt ≤ 1000000
/-- repr of values -/
def rReprD (K : PySem.W.Frag) : List V → Hp → VK → Prop := fun xs H Q => ∃ (S : List Addr) (v : V) (d : D), xs = [v] ∧ Rv K S H v d ∧ d.Fine ∧ Q (.str d.told) H
theorem call_reprD {X : Cx} {j : Nat} (hG : X.A.guards = some []) (hr : Room j X.A) : CallR X (.builtin "repr") (rReprD X.K) := fun pins s σ H xs us Q I r h => by
  obtain ⟨S, v, d, e, rv, ⟨f, dd, sz⟩, q⟩ := h
  exact call_repr hG hr pins s σ H xs us Q I r ⟨v, d.py, e, rv_dp rv f, D.shw d f, by rw [D.dpt]; exact dd, Nat.le_trans (D.sgn d f) (Nat.le_trans sz (by decide)), q⟩
/-! ### list.count of flat items -/
def rCntF (K : PySem.W.Frag) : V → List V → Hp → VK → Prop := fun x xs H Q => ∃ (p : Addr) (ys : List V) (y : V), x = .ref p ∧ xs = [y] ∧ SqL K H p ys ∧ flatV y = true ∧ ys.all flatV = true ∧ Q (.int ((ys.countP fun z => eqV z y : Nat) : Int)) H
theorem count_eqU {x : V} : ∀ {ys : List V} {us : List Value}, Vals ys us → ys.all flatV = true → us.countP (eqU x) = ys.countP fun z => eqV z x
  | [], _, .nil, _ => rfl
  | y :: ys, _, .cons r t, f => by
    rw [List.all_cons, Bool.and_eq_true] at f
    rw [List.countP_cons, List.countP_cons, count_eqU t f.2, eqU_of r f.1]
theorem mt_lcountF {X : Cx} : MtR X "list.count" (rCntF X.K) := by
  intro pins s σ H x xs v us Q I rx rxs h
  obtain ⟨p, ys, y, rfl, rfl, hs, fy, fys, q⟩ := h
  cases rx
  obtain ⟨u, rfl, ru⟩ := rxs.one
  obtain ⟨its, rv, ⟨⟨cls, dd, data, sl⟩, n, ho, hc, hdn, hd⟩, hlen⟩ := I.list hs
  simp only at hc hd
  subst hc hd
  refine call_meets PySem.F.slot_list_count ⟨_, ho, rfl⟩ PySem.F.entry_list_count (PySem.F.args_list_count_2 _ _)
    (SeqAt.list_countAt p its.toArray n dd sl u (eqU y)) ⟨ho, fun u' hu' => mem_eqAt ru fy rv fys u' (by simpa using hu'), ?_⟩
  have ec : its.toArray.toList.countP (eqU y) = ys.countP fun z => eqV z y := count_eqU rv fys
  refine ⟨.int ((ys.countP fun z => eqV z y : Nat) : Int), H, I.tok _, ⟨s.toks, ?_⟩, q⟩
  show Value.int ((its.toArray.toList.countP (eqU y) : Nat) : Int) s.toks = _
  rw [ec]
/-! ### str.index of what is there -/
def rIdxS : V → List V → Hp → VK → Prop := fun x xs H Q => ∃ (a b : Str) (k : Nat), x = .str a ∧ xs = [.str b] ∧ Txt.index0 a b = some k ∧ Q (.int (k : Int)) H
theorem mt_idxS {X : Cx} : MtR X "str.index" rIdxS := by
  intro pins s σ H x xs v us Q I rx rs h
  obtain ⟨a, b, k, rfl, rfl, hk, w⟩ := h
  obtain ⟨t, rfl⟩ := rx
  cases rs with
  | cons r1 rs =>
    cases rs
    obtain ⟨u, rfl⟩ := r1
    cases q : Builtin.Str.occurrences a b 0 a.length 1 with
    | nil =>
      unfold Txt.index0 at hk
      rw [q] at hk
      cases hk
    | cons k' rest =>
      unfold Txt.index0 at hk
      rw [q] at hk
      cases hk
      exact PySem.SC.index q ⟨.int (k : Nat), H, I.tok _, ⟨_, rfl⟩, w⟩
/-! ### xs == ys, both hold the same values -/
def rEqL (K : PySem.W.Frag) : R2 := fun x y H Q => ∃ (S : List Addr) (a b : Addr) (xs : List V) (ds : List D), x = .ref a ∧ y = .ref b ∧ SqL K H a xs ∧ SqL K H b xs ∧ RvL K S H xs ds ∧ Q (.bl true) H
theorem op_eqL {X : Cx} (hu : X.A.units + 64 < cLine) : OpR X (compareOp .Eq) (rEqL X.K) := by
  intro pins s σ H x y v u Q I rx ry h
  obtain ⟨S, a, b, xs, ds, rfl, rfl, hH, hB, rv, q⟩ := h
  cases rx
  cases ry
  obtain ⟨its, r, pl, _⟩ := I.list hH
  obtain ⟨its2, r2, pl2, _⟩ := I.list hB
  have e1 := Vals.length r
  have e2 := Vals.length r2
  refine SeqAt.RcAt.lists (e := fun _ => true) pl.isList pl2.isList (by simp; omega) (by omega) (fun j h1 h2 => ?_) _ _ _ _ ?_
  · have := vals_at rv r r2 X.A.in1 s j (by simpa using h1) (by simpa using h2)
    simpa using this
  · refine ⟨.bl _, H, I, rfl, ?_⟩
    rw [show ((List.range its.toArray.size).all fun _ => true) = true from by simp]
    exact q
/-! ### letters c at the end -/
/-- without the letters c at its end -/
def cOff (l : List Nat) : List Nat := l.take (l.length - (l.reverse.takeWhile fun c => c == 99).length)
theorem cOff_rev (l : List Nat) : cOff l = (l.reverse.dropWhile fun c => c == 99).reverse := by
  unfold cOff
  have e := List.takeWhile_append_dropWhile (p := fun c => c == 99) (l := l.reverse)
  have e2 : l = (l.reverse.dropWhile fun c => c == 99).reverse ++ (l.reverse.takeWhile fun c => c == 99).reverse := by
    rw [← List.reverse_append, e, List.reverse_reverse]
  have hl : l.length = (l.reverse.dropWhile fun c => c == 99).length + (l.reverse.takeWhile fun c => c == 99).length := by
    have := congrArg List.length e2
    simpa using this
  generalize (l.reverse.dropWhile fun c => c == 99) = A at *
  generalize (l.reverse.takeWhile fun c => c == 99) = B at *
  rw [e2, List.length_append, List.length_reverse, List.length_reverse, Nat.add_sub_cancel, ← List.length_reverse (as := A), List.take_left]
theorem contains_c (n : Nat) : (tx [99]).cps.contains n = (n == 99) := by
  by_cases h : n = 99
  · subst h
    decide +kernel
  · rw [show (n == 99) = false from beq_eq_false_iff_ne.mpr h]
    simp [tx]
    exact fun q => h (by omega)
theorem rstrip_c (l : List Nat) : Txt.rstripChars (tx l) (tx [99]) = tx (cOff l) := by
  unfold Txt.rstripChars
  rw [PyProof.Rows.stripBy_eq]
  have e : (tx [99]).cps.contains = fun n => n == 99 := funext contains_c
  rw [e]
  unfold stripLo stripHi Builtin.Str.strSub cOff
  simp [tx, Str.length]
theorem drop_all : ∀ {l : List Nat}, (l.dropWhile fun c => c == 99) = [] → ∀ c ∈ l, c = 99
  | x :: l, h, c, m => by
    rw [List.dropWhile_cons] at h
    by_cases z : (x == 99) = true
    · rw [if_pos z] at h
      rcases List.mem_cons.mp m with rfl | m
      · exact beq_iff_eq.mp z
      · exact drop_all h c m
    · rw [if_neg z] at h
      cases h
theorem cOff_nil {l : List Nat} (h : cOff l = []) : ∀ c ∈ l, c = 99 := fun c m => by
  rw [cOff_rev] at h
  exact drop_all (List.reverse_eq_nil_iff.mp h) c (List.mem_reverse.mpr m)
theorem cOff_last {l : List Nat} (h : cOff l ≠ []) : ∃ i c, cOff l = i ++ [c] ∧ c ≠ 99 := by
  rw [cOff_rev] at h ⊢
  cases e : (l.reverse.dropWhile fun c => c == 99) with
  | nil => rw [e] at h; exact absurd rfl h
  | cons c t =>
    refine ⟨t.reverse, c, by rw [List.reverse_cons], fun z => ?_⟩
    have := List.head?_dropWhile_not (fun c => c == 99) l.reverse
    rw [e] at this
    simp at this
    exact this z
theorem abc_cOff {l : List Nat} (h : Abc l) : Abc (cOff l) := h.take _
theorem cOff_len (l : List Nat) : (cOff l).length ≤ l.length := by
  unfold cOff
  rw [List.length_take]
  omega
/-- the text beyond -/
def bey (l : List Nat) : Option (List Nat) := if cOff l = [] then none else some ((cOff l).dropLast ++ [(cOff l).getLastD 0 + 1])
theorem abc_bey {l m : List Nat} (h : Abc l) (e : bey l = some m) : Abc m ∧ m.length ≤ l.length := by
  unfold bey at e
  by_cases z : cOff l = []
  · rw [if_pos z] at e; cases e
  · rw [if_neg z] at e
    obtain ⟨i, c, hc, n⟩ := cOff_last z
    have hl := cOff_len l
    have ha := abc_cOff h
    rw [hc] at e hl ha
    simp at e
    subst e
    refine ⟨Abc.app (fun x m => ha x (List.mem_append_left _ m)) (Abc.one ?_), by simpa using hl⟩
    rcases ha c (List.mem_append_right _ List.mem_cons_self) with q | q | q <;> omega
end Pv
namespace Pv
open PySem PySem.Spec PyProof.Rows L2 Pg
theorem bag_ls {H : Hp} {b : Addr} {n : Nat} (B : Bag H b n) : Lsts H [b] := by
  obtain ⟨x, y, z, hb, _⟩ := B
  exact .one hb
theorem catle {a b : List Nat} (h : a.length ≤ 12) (g : b.length ≤ 1000) : a.length + b.length ≤ 100000 := by omega
theorem catle' {a b : List Nat} (h : a.length ≤ 1000) (g : b.length ≤ 12) : a.length + b.length ≤ 100000 := by omega
theorem EvD.cat {K : PySem.W.Frag} {S : List Addr} {te tb : TE} {σ : L2.St} {H : Hp} {a b : List Nat} (h : EvD K S te σ H (.str a)) (g : EvD K S tb σ H (.str b)) (hl : a.length + b.length ≤ 100000) : EvD K S (tOp (fun x y H Q => ∃ i j, x = .str i ∧ y = .str j ∧ i.length + j.length ≤ sizeLine ∧ Q (.str (i ++ j)) H) te tb) σ H (.str (a ++ b)) := fun H1 s Q k =>
  h H1 s _ fun v H2 s2 r => g H2 (s.trans s2) _ fun u H3 s3 q => by
    cases r with
    | str _ h1 =>
      cases q with
      | str _ h2 =>
        refine ⟨tx a, tx b, rfl, rfl, by rw [tx_len, tx_len]; exact sz hl, ?_⟩
        rw [tx_app]
        exact k _ _ (s2.trans s3) (.str _ (by rw [List.length_append]; exact hl))
/-! ### t == () -/
def rEqNilT (K : PySem.W.Frag) : R2 := fun x y H Q => ∃ a b xs, x = .ref a ∧ y = .ref b ∧ SqT K H a xs ∧ SqT K H b [] ∧ Q (.bl xs.isEmpty) H
theorem op_eqNilT {X : Cx} (hu : X.A.units + 64 < cLine) : OpR X (compareOp .Eq) (rEqNilT X.K) := by
  intro pins s σ H x y v u Q I rx ry h
  obtain ⟨a, b, xs, rfl, rfl, hH, hB, q⟩ := h
  cases rx
  cases ry
  obtain ⟨its, r, pl, _⟩ := I.tuple hH
  obtain ⟨its2, r2, pl2, _⟩ := I.tuple hB
  cases r2
  have e1 := Vals.length r
  refine SeqAt.RcAt.tuples (e := fun _ => true) pl pl2 (by omega) (fun j h1 h2 => absurd h2 (by simp)) _ _ _ _ ?_
  refine ⟨.bl _, H, I, rfl, ?_⟩
  have e : ((List.range (min its.toArray.size ([] : List Value).toArray.size)).all (fun _ => true) && its.toArray.size == ([] : List Value).toArray.size) = xs.isEmpty := by
    cases r with
    | nil => rfl
    | cons _ _ => simp
  rw [e]
  exact q
end Pv
namespace Pg
open PySem PySem.Spec PyProof.Rows L2
/-! ### min, max of a list of ints with default= -/
theorem ints_reads {h : Heap} : ∀ {its : List Value} {ns : List Int}, IntsAre its ns → ∃ as, ReadsAll h its (ns.map PyData.int) as
  | _, _, .nil => ⟨_, ReadsAll.nil⟩
  | _, _, .cons a t hi => by
    obtain ⟨as, r⟩ := ints_reads (h := h) hi
    exact ⟨_, ReadsAll.cons (Reads.int a t) r⟩
def foldMin (ns : List Int) (d : Int) : Int := match ns with | [] => d | n :: r => r.foldl min n
def foldMax (ns : List Int) (d : Int) : Int := match ns with | [] => d | n :: r => r.foldl max n
theorem alike_ints (ns : List Int) : PySem.W.AlikeAll (ns.map PyData.int) := by
  refine ⟨fun x hx y hy => ?_, fun x hx => ?_⟩
  · obtain ⟨i, _, rfl⟩ := List.mem_map.mp hx
    obtain ⟨j, _, rfl⟩ := List.mem_map.mp hy
    rfl
  · obtain ⟨i, _, rfl⟩ := List.mem_map.mp hx
    exact fun e => nomatch e
theorem depth_ints : ∀ ns : List Int, PyData.depthAll (ns.map PyData.int) ≤ 1
  | [] => Nat.zero_le _
  | n :: ns => Nat.max_le.mpr ⟨(Nat.zero_le 1 : PyData.depth (.int n) ≤ 1), depth_ints ns⟩
section
variable {X : Cx}
def rMinDf (K : PySem.W.Frag) : List V → List V → Hp → VK → Prop := fun vs zs H Q => ∃ (a : Addr) (ns : List Int) (d : Int), vs = [V.ref a] ∧ zs = [.int d] ∧ SqL K H a (ns.map V.int) ∧ Q (.int (foldMin ns d)) H
def rMaxDf (K : PySem.W.Frag) : List V → List V → Hp → VK → Prop := fun vs zs H Q => ∃ (a : Addr) (ns : List Int) (d : Int), vs = [V.ref a] ∧ zs = [.int d] ∧ SqL K H a (ns.map V.int) ∧ Q (.int (foldMax ns d)) H
theorem cr_minDf (hc : X.calm = true) (hu : X.A.units + 64 < cLine) : CallRK X (.builtin "min") [Str.ofString "default"] (rMinDf X.K) := by
  intro pins s σ H vs zs us ws Q I r rz h
  obtain ⟨a, ns, d, rfl, rfl, hs, q⟩ := h
  obtain rfl := Vals.ref1 r
  obtain ⟨w1, rfl, e1⟩ := vals1 rz
  obtain ⟨t1, rfl⟩ := e1
  obtain ⟨its, rv, hl, _⟩ := I.list hs
  obtain ⟨as, ra⟩ := ints_reads (h := s.heap) rv.ints
  refine PySem.W.min_list_default (I.ok.hd hc) hl.isList ra ?_ ?_ (fun e h' tk hk => ?_) fun y ys i v h' tk bs e hv rd hk => ?_
  · exact alike_ints ns
  · have := depth_ints ns
    omega
  · have : ns = [] := List.map_eq_nil_iff.mp e
    subst this
    exact ⟨.int _, H, I.kept hk, ⟨_, rfl⟩, q⟩
  · cases ns with
    | nil => cases e
    | cons n ns =>
      cases e
      rw [PySem.W.minD_ints] at rd
      cases rd
      exact ⟨.int _, H, I.kept hk, ⟨_, rfl⟩, q⟩
theorem cr_maxDf (hc : X.calm = true) (hu : X.A.units + 64 < cLine) : CallRK X (.builtin "max") [Str.ofString "default"] (rMaxDf X.K) := by
  intro pins s σ H vs zs us ws Q I r rz h
  obtain ⟨a, ns, d, rfl, rfl, hs, q⟩ := h
  obtain rfl := Vals.ref1 r
  obtain ⟨w1, rfl, e1⟩ := vals1 rz
  obtain ⟨t1, rfl⟩ := e1
  obtain ⟨its, rv, hl, _⟩ := I.list hs
  obtain ⟨as, ra⟩ := ints_reads (h := s.heap) rv.ints
  refine PySem.W.max_list_default (I.ok.hd hc) hl.isList ra ?_ ?_ (fun e h' tk hk => ?_) fun y ys i v h' tk bs e hv rd hk => ?_
  · exact alike_ints ns
  · have := depth_ints ns
    omega
  · have : ns = [] := List.map_eq_nil_iff.mp e
    subst this
    exact ⟨.int _, H, I.kept hk, ⟨_, rfl⟩, q⟩
  · cases ns with
    | nil => cases e
    | cons n ns =>
      cases e
      rw [PySem.W.maxD_ints] at rd
      cases rd
      exact ⟨.int _, H, I.kept hk, ⟨_, rfl⟩, q⟩
end
section
variable {K : PySem.W.Frag} {a : Addr} {xs : List V} {ds : List Dt} {g : TG} {te : TE} {vs : List Nat} {σ : L2.St} {H1 : Hp} {D : Addr} {Qd : Hp → Prop}
theorem lc_mapT9 (nD : H1 D = none) (hs : SqT K H1 a xs) (hl : ds.length = xs.length) (hz : xs.length ≤ 100000)
    (step : ∀ (i : Nat) x d H, xs[i]? = some x → ds[i]? = some d → Stp [] H1 H → ∀ Q : VK, (∀ y H', Stp [] H H' → Rp K H' y d → Q y H') → g x (wipe σ vs) H fun σ2 H2 => wipe σ2 vs = wipe σ vs ∧ te σ2 H2 Q)
    (hd : ∀ ws H, Stp [] H1 H → H D = some (.lst ws) → RpL K H ws ds → Qd H) :
    ∃ W : Nat → Nat → Hp → Prop, (∃ m, W 0 m (upd H1 D (.lst []))) ∧ ∀ i m H, W i m H →
      ((Itt K a).stop i H ∧ Qd H) ∨ ((Itt K a).go i H ∧ ∃ Nx : Hp → Prop, (∀ H', Nx H' → ∃ m', m' < m ∧ W (i + 1) m' H') ∧ ∀ x H', (Itt K a).yld i H x H' → g x (wipe σ vs) H' fun σ2 H2 => wipe σ2 vs = wipe σ vs ∧ tYes σ2 H2 fun b H3 =>
        if b = true then te σ2 H3 fun y H4 => ∃ acc, H4 D = some (.lst acc) ∧ acc.length < sizeLine ∧ Nx (upd H4 D (.lst (acc ++ [y]))) else Nx H3) := by
  refine lc_tup (a := a) (xs := xs) (fun i H => ∃ ws, H D = some (.lst ws) ∧ RpL K H ws (ds.take i) ∧ Stp [] H1 H) ⟨[], upd_same, .nil, Stp.new nD _⟩ (fun i H _ ⟨_, _, _, S⟩ => sqt_stp S Lsts.nil hs) ?_ ?_
  · rintro i x H hi ⟨ws, hL, rv, S⟩
    have il : i < ds.length := by rw [hl]; exact (List.getElem?_eq_some_iff.mp hi).1
    refine step i x ds[i] H hi (List.getElem?_eq_getElem il) S _ fun y H' S' ry => ?_
    refine ⟨ws, S'.kp _ _ (fun m => nomatch m) hL, ?_, ws ++ [y], upd_same, ?_, (S.trans S').mut nD⟩
    · rw [rv.len, List.length_take]
      exact Nat.lt_of_lt_of_le (show min i ds.length < 100000 by omega) (by decide)
    · have s4 : Stp [D] H' (upd H' D (.lst (ws ++ [y]))) := Stp.put (by simp)
      have hL' := S'.kp _ _ (fun m => nomatch m) hL
      exact RpL.snoc ((rv.stp S' Lsts.nil).stp s4 (.one hL')) (List.getElem?_eq_getElem il) (ry.stp s4 (.one hL'))
  · rintro H ⟨ws, hL, rv, S⟩
    rw [← hl, List.take_length] at rv
    exact hd ws H S hL rv
end
end Pg
namespace Pv
open PySem PySem.Spec PyProof.Rows L2 Pg
/-! ### tuple * int: once, or of no values -/
theorem tuple_mulS (l : Addr) (items : Array Value) (n : Nat) (dd : Option Addr) (sl : Array (Option Value)) (x : Int) (u : Tok) (c0 : (decide (x < -(2 ^ 63)) || decide (x ≥ 2 ^ 63)) = false) (c1 : (items.isEmpty || x == 1) = true) :
    Meets (Builtin.«tuple.__mul__» ⟨[.ref l, .int x u], []⟩) (fun _ R s => s.heap.get? l = some { cls := .type "tuple", dict := dd, data := .seq items n, slots := sl } ∧ R (.ok (.ret (Value.ref l))) s) :=
  .of_wp fun prog w A R s h => by
    obtain ⟨hp, g, d, tk, os⟩ := s
    obtain ⟨hl, h⟩ := h
    have f1 := AutoSeq1.idx_int
    wp_walk using wpAny_loadPart' hl
    repeat (first
      | (refine wpAny_ite_false (decide_eq_false (by rw [c0]; exact Bool.false_ne_true)) ?_; wp_walk using wpAny_loadPart' hl)
      | (refine wpAny_ite_true (decide_eq_true c1) ?_; wp_walk using wpAny_loadPart' hl))
    exact ⟨_, rfl, h⟩
def rRepS (K : PySem.W.Frag) : R2 := fun x y H Q => ∃ l k xs, x = .ref l ∧ y = .int k ∧ SqT K H l xs ∧ (xs = [] ∨ k = 1) ∧ 0 ≤ k ∧ k ≤ 1000 ∧ Q (.ref l) H
theorem op_repS {X : Cx} : OpR X (binaryOp .Mult) (rRepS X.K) := by
  intro pins s σ H x y v u Q I rx ry h
  obtain ⟨l, k, xs, rfl, rfl, hT, hne, h1, h2, q⟩ := h
  cases rx
  obtain ⟨t, rfl⟩ := ry
  obtain ⟨its, r, ⟨⟨cls, dd, data, sl⟩, ho, hc, n, hd⟩, hs⟩ := I.tuple hT
  simp only at hc hd
  subst hc hd
  have c0 : (decide (k < -(2 ^ 63)) || decide (k ≥ 2 ^ 63)) = false := by
    rw [decide_eq_false (by omega), decide_eq_false (by omega)] <;> rfl
  have c1 : (its.toArray.isEmpty || k == 1) = true := by
    rcases hne with e | e
    · subst e
      cases r
      rfl
    · rw [e]
      simp
  refine wpAny_binaryOp_repeat_ref (T := "tuple") (U := "int") (by decide) ⟨_, ho, rfl⟩ (fun s' => typeIs_int s' k t) noFill_tuple_mul F.fills_int_mul F.slot_int_rmul repeat_tuple F.slot_int_index.lookup
    (call_meets F.slot_int_rmul (typeIs_int s k t) F.entry_int_rmul (F.args_int_rmul_2 _ _) (int_rmul_tuple k t l its.toArray n dd sl)
      ⟨ho, rfl, ⟨_, ho, rfl⟩, call_meets F.slot_tuple_mul ⟨_, ho, rfl⟩ F.entry_tuple_mul (F.args_tuple_mul_2 _ _) (tuple_mulS l its.toArray n dd sl k t c0 c1) ⟨ho, ?_⟩⟩)
  exact ⟨.ref l, H, I, rfl, q⟩
def rRepA (K : PySem.W.Frag) : R2 := fun x y H Q => rRepT K x y H Q ∨ rRepS K x y H Q
theorem op_repA {X : Cx} : OpR X (binaryOp .Mult) (rRepA X.K) := by
  intro pins s σ H x y v u Q I rx ry h
  rcases h with h | h
  · exact op_repT pins s σ H x y v u Q I rx ry h
  · exact op_repS pins s σ H x y v u Q I rx ry h
/-- a tuple so many times -/
theorem rep_use {K : PySem.W.Frag} {H : Hp} {l : Addr} {xs : List V} {k : Int} {Q : VK} (h : SqT K H l xs) (k1 : 1 ≤ k) (k2 : k ≤ 1000) (few : xs.length ≤ 1000) (q : ∀ p H', Stp [] H H' → SqT K H' p (List.replicate k.toNat xs).flatten → Q (.ref p) H') : rRepA K (.ref l) (.int k) H Q := by
  by_cases e : xs = [] ∨ k = 1
  · refine .inr ⟨l, k, xs, rfl, rfl, h, e, by omega, k2, q l H (Stp.refl _ _) ?_⟩
    rcases e with e | e
    · subst e
      have : (List.replicate k.toNat ([] : List V)).flatten = [] := by simp
      rw [this]
      exact h
    · subst e
      show SqT K H l (List.replicate 1 xs).flatten
      simpa using h
  · have e1 : xs ≠ [] := fun z => e (.inl z)
    have e2 : k ≠ 1 := fun z => e (.inr z)
    exact .inl ⟨l, k, xs, rfl, rfl, h, e1, by omega, k2, few, fun p np => q p _ (Stp.new np []) (SqT.of upd_same)⟩
end Pv
namespace Kq
open PySem PySem.Spec PyProof.Rows L2 Pg Pv
def topS (i : Nat) : Stmt := PySem.Challenge.pw_pageskips_k16_whole_filters_rewritten.main.body.getD i (.Pass ⟨0, 0, 0, 0⟩)
structure Nm (mg : Str → Option Value) : Prop where
  n_int : mg "int" = none
  n_len : mg "len" = none
  n_max : mg "max" = none
  n_range : mg "range" = none
  n_type : mg "type" = none
  n_tuple : mg "tuple" = none
  n_list : mg "list" = none
  n_str : mg "str" = none
  n_bool : mg "bool" = none
  n_min : mg "min" = none
  n_any : mg "any" = none
  n_enumerate : mg "enumerate" = none
  n_all : mg "all" = none
  n_zip : mg "zip" = none
  n_sorted : mg "sorted" = none
  n_set : mg "set" = none
  n_repr : mg "repr" = none
/-- whether a dict of the module has a text -/
def KHas (K : PySem.W.Frag) (w : World) (d : Addr) (z : Str) (b : Bool) : Prop := ∃ es n r, KDict K w d es n ∧ PySem.W.nsIn K d z = some r ∧ r.isSome = b
theorem op_notInKd {X : Cx} : OpR X (compareOp .NotIn) (fun x y H Q => ∃ (z : Str) (d : Addr) (b : Bool), x = .str z ∧ y = .ref d ∧ KHas X.K X.w d z b ∧ Q (.bl (!b)) H) := by
  intro pins s σ H x y v u Q I rx ry h
  obtain ⟨z, d, b, rfl, rfl, ⟨es, n, r, D, e, rfl⟩, q⟩ := h
  exact op_notIn_kd D pins s σ H _ _ v u Q I rx ry ⟨z, r, rfl, rfl, e, q⟩
/-- what stands in the module: dicts of texts, a tuple -/
structure Ng (K : PySem.W.Frag) (w : World) (mg : Str → Option Value) where
  TURNED : Addr
  g_TURNED : mg "TURNED" = some (.ref TURNED)
  ny : KDct K w TURNED "yes" (.str "no")
  nn : KDct K w TURNED "no" (.str "yes")
  no : KDct K w TURNED "open" (.str "open")
  hy : KHas K w TURNED "yes" true
  hn : KHas K w TURNED "no" true
  ho : KHas K w TURNED "open" true
  NEXT_LETTERS : Addr
  g_NEXT_LETTERS : mg "NEXT_LETTERS" = some (.ref NEXT_LETTERS)
  na : KDct K w NEXT_LETTERS (tx [97]) (.str "b")
  nb : KDct K w NEXT_LETTERS (tx [98]) (.str "c")
  EVERY_TEXT : Addr
  g_EVERY_TEXT : mg "EVERY_TEXT" = some (.ref EVERY_TEXT)
  EV1 : Addr
  ev : ∀ H, SqT K H EVERY_TEXT [.ref EV1]
  ev1 : ∀ H, SqT K H EV1 [.str "", .non]
section
variable {P : Program} {w : World} {K : PySem.W.Frag} {mg : Str → Option Value} {base : Heap}
abbrev s__law_bag : Stmt := topS 42
abbrev N__law_bag : List Str := ["cell"]
theorem sc__law_bag : FnScope ["cell"] ["cell"] (defScope s__law_bag) := ⟨rfl, rfl, rfl, by decide +kernel, rfl, by decide +kernel, by decide +kernel⟩

abbrev s__law_draw : Stmt := topS 43
abbrev N__law_draw : List Str := ["bag", "upto", "digit", "turn", "mixed"]
theorem sc__law_draw : FnScope ["bag", "upto", "digit", "turn", "mixed"] ["bag", "upto"] (defScope s__law_draw) := ⟨rfl, rfl, rfl, by decide +kernel, rfl, by decide +kernel, by decide +kernel⟩

/-! ### the bag, the draws -/
def spBag : Sp := fun vs H Q _ => ∃ c : Int, vs = [.int c] ∧ ∀ b H', H b = none → Stp [] H H' → Bag H' b 0 → Q (.ref b) H'
theorem cl__law_bag {f : Addr} {fd : FuncData} (D : Df K mg "_law_bag" s__law_bag ["cell"] f fd) (T : Nm mg) : Cl P w K mg base 1 "_law_bag" s__law_bag ["cell"] spBag := by
  refine D.cl sc__law_bag (fun vs H Q E h => ?_) (fun cdv A outer s H vs Q E hr h => ?_)
  · obtain ⟨c, rfl, _⟩ := h
    rfl
  · obtain ⟨c, rfl, k⟩ := h
    refine ⟨_, (pss_one (ps_ret (pe_lst (pa_cons (pe_callB (call_max2 rfl) (by rfl) T.n_max (by decide +kernel) (pa_cons pe_int (pa_cons (pe_op op_sub (pe_callTy call_int1 (by rfl) T.n_int (by decide +kernel) (pa_cons (pv 0) pa_nil)) (pe_op op_pow pe_int pe_int)) pa_nil))) (pa_cons (pe_op op_mod (pe_callTy call_int1 (by rfl) T.n_int (by decide +kernel) (pa_cons (pv 0) pa_nil)) pe_int) (pa_cons pe_int pa_nil)))))), ?_⟩
    refine ⟨_, rfl, .inl ⟨c, rfl, _, _, rfl, rfl, ⟨by decide, by decide, by decide⟩, _, _, rfl, rfl, _, _, rfl, ?_⟩⟩
    refine ⟨_, rfl, .inl ⟨c, rfl, _, _, rfl, rfl, (by show (0 : Int) < 999999999989; decide), (by show 3 ≤ sizeLine; decide), fun b nb => ?_⟩⟩
    refine k b _ nb (Stp.new nb _) ⟨_, _, _, upd_same, ?_⟩
    have m1 : 0 ≤ c % 999999999989 := Int.emod_nonneg _ (by decide)
    have m2 : c % 999999999989 < 999999999989 := Int.emod_lt_of_pos _ (by decide)
    refine ⟨?_, m1, by omega, by omega, by omega⟩
    split <;> omega
def spDraw : Sp := fun vs H Q _ => ∃ (b : Addr) (up : Int) (n : Nat), vs = [.ref b, .int up] ∧ Bag H b n ∧ n < 2 ^ 30 ∧ 0 < up ∧ up < 2 ^ 30 ∧
  ∀ d H', 0 ≤ d → d < up → Only b H H' → Bag H' b (n + 1) → Q (.int d) H'
theorem cl__law_draw {f : Addr} {fd : FuncData} (D : Df K mg "_law_draw" s__law_draw ["bag", "upto"] f fd) (T : Nm mg) : Cl P w K mg base 1 "_law_draw" s__law_draw ["bag", "upto"] spDraw := by
  refine D.cl sc__law_draw (fun vs H Q E h => ?_) (fun cdv A outer s H vs Q E hr h => ?_)
  · obtain ⟨b, up, n, rfl, _⟩ := h
    rfl
  · obtain ⟨b, up, n, rfl, ⟨x, y, z, hb, x0, y0, y1, z0, z1⟩, hn, u0, u1, k⟩ := h
    refine ⟨_, (pss_cons (ps_if (pt_cmpR op_gt (pe_ix ix_list (pv 0) pe_int (fun _ _ => rfl)) pe_int (by first | exact nomark _ | rfl)) (pss_cons (ps_set (i := 2) sc__law_draw.nd rfl (by first | exact Or.inl rfl | exact Or.inr rfl) (pe_op op_mod (pe_callTy call_int1 (by rfl) T.n_int (by decide +kernel) (pa_cons (pe_ix ix_list (pv 0) pe_int (fun _ _ => rfl)) pa_nil)) (pv 1)))
      (pss_cons (ps_asg (pe_op op_fdivW (pe_ix ix_list (pv 0) pe_int (fun _ _ => rfl)) (pv 1)) (pg_sub (pv 0) pe_int set_list))
      (pss_one (ps_ret (pv 2))))) pss_nil)
      (pss_cons (ps_set (i := 3) sc__law_draw.nd rfl (by first | exact Or.inl rfl | exact Or.inr rfl) (pe_op op_add (pe_ix ix_list (pv 0) pe_int (fun _ _ => rfl)) pe_int))
      (pss_cons (ps_asg (pv 3) (pg_sub (pv 0) pe_int set_list))
      (pss_cons (ps_set (i := 4) sc__law_draw.nd rfl (by first | exact Or.inl rfl | exact Or.inr rfl) (pe_op op_add (pe_op op_mulW (pe_op op_add (pe_ix ix_list (pv 0) pe_int (fun _ _ => rfl)) pe_int) (pe_op op_add (pe_op op_add (pe_op op_mulW (pv 3) (pv 3)) (pe_op op_mulW pe_int (pv 3))) pe_int)) (pe_op op_mulW pe_int (pv 3))))
      (pss_cons (ps_set (i := 4) sc__law_draw.nd rfl (by first | exact Or.inl rfl | exact Or.inr rfl) (pe_op op_fdivW (pe_op op_mod (pe_callTy call_int1 (by rfl) T.n_int (by decide +kernel) (pa_cons (pe_op op_add (pe_op op_add (pe_op op_mulW (pv 4) (pv 4)) (pe_op op_mulW pe_int (pv 4))) (pv 3)) pa_nil)) pe_int) pe_int))
      (pss_one (ps_ret (pe_op op_mod (pe_op op_fdivW (pe_op op_mod (pe_callTy call_int1 (by rfl) T.n_int (by decide +kernel) (pa_cons (pe_op op_add (pe_op op_add (pe_op op_mulW (pv 4) (pv 4)) (pe_op op_mulW pe_int (pv 4))) (pv 3)) pa_nil)) pe_int) pe_int) (pv 1))))))))), ?_⟩
    refine ⟨_, rfl, b, _, 0, .int x, rfl, rfl, SqL.of hb, rfl, _, _, rfl, rfl, _, rfl, ite2 (fun hx => ?_) (fun hx => ?_)⟩
    · refine ⟨_, rfl, b, _, 0, .int x, rfl, rfl, SqL.of hb, rfl, .inl ⟨x, rfl, _, rfl, _, _, rfl, rfl, u0, ?_⟩⟩
      refine ⟨_, rfl, b, _, 0, .int x, rfl, rfl, SqL.of hb, rfl, _, rfl, _, _, rfl, rfl, cdiv 30 u0 u1 (by decide) (by decide), ?_⟩
      refine ⟨_, rfl, b, _, 0, 0, rfl, rfl, hb, rfl, ?_⟩
      refine ⟨_, rfl, k _ _ (Int.emod_nonneg _ (by omega)) (Int.emod_lt_of_pos _ u0) ⟨_, rfl⟩ ⟨_, _, _, upd_same, ?_⟩⟩
      exact ⟨Int.ediv_nonneg x0 (by omega), y0, y1, z0, by omega⟩
    · refine ⟨_, rfl, b, _, 2, .int z, rfl, rfl, SqL.of hb, rfl, _, _, rfl, rfl, ?_⟩
      obtain ⟨t, et⟩ : ∃ t, t = z + 1 := ⟨_, rfl⟩
      dsimp only
      rw [← et]
      have t0 : 0 ≤ t := by omega
      have t1 : t < 2 ^ 31 := by omega
      refine ⟨_, rfl, _, rfl, b, _, 2, 2, rfl, rfl, hb, rfl, ?_⟩
      have a1 := mul_lt (a := 31) (b := 31) t0 t1 t0 t1
      have a2 := mul_lt (i := 1009) (a := 10) (b := 31) (by decide) (by decide) t0 t1
      have a3 := mul_lt (i := y + 5) (j := t * t + 1009 * t + 61) (a := 41) (b := 63) (by omega) (by omega) (by omega) (by omega)
      have a4 := mul_lt (i := 9176) (a := 14) (b := 31) (by decide) (by decide) t0 t1
      refine ⟨_, rfl, b, _, 1, .int y, rfl, rfl, SqL.of upd_same, rfl, _, _, rfl, rfl,
        _, rfl, _, rfl, _, _, rfl, rfl, cmul 31 31 t0 t1 t0 t1 (by decide) (by decide) (by decide),
        _, rfl, _, _, rfl, rfl, cmul 10 31 (by decide) (by decide) t0 t1 (by decide) (by decide) (by decide), _, _, rfl, rfl, _, _, rfl, rfl,
        _, _, rfl, rfl, cmul 41 63 (by omega) (by omega) (by omega) (by omega) (by decide) (by decide) (by decide),
        _, rfl, _, _, rfl, rfl, cmul 14 31 (by decide) (by decide) t0 t1 (by decide) (by decide) (by decide), _, _, rfl, rfl, ?_⟩
      obtain ⟨m, em⟩ : ∃ m, m = (y + 5) * (t * t + 1009 * t + 61) + 9176 * t := ⟨_, rfl⟩
      dsimp only
      rw [← em]
      have m0 : 0 ≤ m := by omega
      have m1 : m < 2 ^ 105 := by omega
      refine ⟨_, rfl, _, rfl, _, _, rfl, rfl, cmul 105 105 m0 m1 m0 m1 (by decide) (by decide) (by decide),
        _, rfl, _, _, rfl, rfl, cmul 20 105 (by decide) (by decide) m0 m1 (by decide) (by decide) (by decide), _, _, rfl, rfl,
        _, rfl, _, _, rfl, rfl, .inl ⟨_, rfl, _, _, rfl, rfl, (by show (0 : Int) < 1000000000039; decide), _, _, rfl, rfl, cdiv 8 (by decide) (by decide) (by decide) (by decide), ?_⟩⟩
      obtain ⟨v, ev⟩ : ∃ v, v = (m * m + 524287 * m + t) % 1000000000039 / 131 := ⟨_, rfl⟩
      dsimp only
      rw [← ev]
      have w0 : 0 ≤ (m * m + 524287 * m + t) % 1000000000039 := Int.emod_nonneg _ (by decide)
      have w1 : (m * m + 524287 * m + t) % 1000000000039 < 1000000000039 := Int.emod_lt_of_pos _ (by decide)
      have v0 : 0 ≤ v := by omega
      have v1 : v < 2 ^ 40 := by omega
      refine ⟨_, rfl, _, rfl, _, _, rfl, rfl, cmul 40 40 v0 v1 v0 v1 (by decide) (by decide) (by decide),
        _, rfl, _, _, rfl, rfl, cmul 13 40 (by decide) (by decide) v0 v1 (by decide) (by decide) (by decide), _, _, rfl, rfl,
        _, rfl, _, _, rfl, rfl, .inl ⟨_, rfl, _, _, rfl, rfl, (by show (0 : Int) < 2147483587; decide), _, _, rfl, rfl, cdiv 5 (by decide) (by decide) (by decide) (by decide), _, rfl, _, _, rfl, rfl, u0, ?_⟩⟩
      exact k _ _ (Int.emod_nonneg _ (by omega)) (Int.emod_lt_of_pos _ u0) ⟨_, rfl⟩ ⟨_, _, _, upd_same, x0, y0, y1, by omega, by omega⟩
abbrev s__law_text : Stmt := topS 44
abbrev N__law_text : List Str := ["bag", "size", "k"]
theorem sc__law_text : FnScope ["bag", "size", "k"] ["bag"] (defScope s__law_text) := ⟨rfl, rfl, rfl, by decide +kernel, rfl, by decide +kernel, by decide +kernel⟩

/-! ### drawn texts -/
def spText : Sp := fun vs H Q _ => ∃ (b : Addr) (n : Nat), vs = [.ref b] ∧ Bag H b n ∧ n + 20 < 2 ^ 30 ∧ ∀ l H', Abc l → l.length ≤ 12 → Stp [b] H H' → Bag H' b (n + 14) → Q (Tx l) H'
theorem cl__law_text {f : Addr} {fd : FuncData} (D : Df K mg "_law_text" s__law_text ["bag"] f fd) (T : Nm mg) (c__law_draw : Cl P w K mg base 1 "_law_draw" s__law_draw ["bag", "upto"] spDraw) : Cl P w K mg base 2 "_law_text" s__law_text ["bag"] spText := by
  refine D.cl sc__law_text (fun vs H Q E h => ?_) (fun cdv A outer s H vs Q E hr h => ?_)
  · obtain ⟨b, n, rfl, _⟩ := h
    rfl
  · obtain ⟨b, n, rfl, B, hn, k⟩ := h
    refine ⟨_, (pss_cons (ps_set (i := 1) sc__law_text.nd rfl (by first | exact Or.inl rfl | exact Or.inr rfl) (pe_cl c__law_draw hr (by omega) (pa_cons (pv 0) (pa_cons (pe_ix ix_list (pe_lst (pa_cons pe_int (pa_cons pe_int (pa_cons pe_int (pa_cons pe_int pa_nil))))) (pe_cl c__law_draw hr (by omega) (pa_cons (pv 0) (pa_cons pe_int pa_nil))) (fun _ _ => rfl)) pa_nil))))
      (pss_one (ps_ret (pe_join pe_str (pe_lc (own := [("k", 2)]) rfl sc__law_text.nd (pi_range1 (by rfl) T.n_range (pa_cons (pv 1) pa_nil)) (blkOk_by (own := [("k", 2)]) (N := N__law_text) (sc := defScope s__law_text) (by decide +kernel)) (fun _ _ _ _ _ => (pg_name (i := 2) sc__law_text.nd rfl (by first | exact Or.inl rfl | exact Or.inr rfl))) (fun _ _ _ _ _ => pts_nil) (fun _ _ _ _ _ => (pe_ix ix_str pe_str (pe_cl c__law_draw hr (by omega) (pa_cons (pv 0) (pa_cons pe_int pa_nil))) (fun _ _ => rfl)))))))), ?_⟩
    refine ⟨_, rfl, (by show 4 ≤ sizeLine; decide), fun l nl => ?_⟩
    have S1 : Stp [b] H (upd H l (.lst [.int 3, .int 4, .int 6, .int 13])) := Stp.new nl _
    refine ⟨_, rfl, b, 4, n, rfl, B.upd (B.ne nl), by omega, by decide, by decide, fun d H2 d0 d1 o1 B1 => ?_⟩
    have S2 : Stp [b] H H2 := S1.trans (o1.stp (List.mem_singleton.mpr rfl))
    have hl : H2 l = some (.lst [.int 3, .int 4, .int 6, .int 13]) := o1.at upd_same (B.ne nl).symm
    obtain ⟨u, mu, eu⟩ := pick_int (ns := [3, 4, 6, 13]) d0 d1
    have u0 : 0 < u ∧ u ≤ 13 := by
      simp at mu
      omega
    refine ⟨l, _, d, .int u, rfl, rfl, SqL.of hl, eu, b, u, n + 1, rfl, B1, by omega, u0.1, by omega, fun z H3 z0 z1 o2 B2 => ?_⟩
    have S3 : Stp [b] H H3 := S2.trans (o2.stp (List.mem_singleton.mpr rfl))
    refine ⟨⟨_, rfl⟩, _, rfl, z, rfl, by omega, by omega, fun L nL => ?_⟩
    refine lc_range (lo := 0) (n := z.toNat) (fun i H4 => ∃ cs : List Nat, Abc cs ∧ cs.length = i ∧ H4 L = some (.lst (cs.map fun c => Tx [c])) ∧ Stp [b] H3 H4 ∧ Bag H4 b (n + 2 + i))
      ⟨[], Abc.nil, rfl, upd_same, Stp.new nL _, B2.upd (B2.ne nL)⟩ ?_ ?_
    · rintro i H4 hi ⟨cs, ha, hcl, hL, S4, B4⟩
      refine ⟨rfl, _, rfl, b, 3, _, rfl, B4, by omega, by decide, by decide, fun d H5 d0 d1 o3 B5 => ?_⟩
      obtain ⟨c, mc, ec⟩ := pick (xs := [97, 98, 99]) d0 d1
      have nLb : L ≠ b := (B2.ne nL).symm
      have hL5 : H5 L = some (.lst (cs.map fun c => Tx [c])) := o3.at hL nLb
      have S5 : Stp [b] H4 H5 := o3.stp (List.mem_singleton.mpr rfl)
      have hc : c = 97 ∨ c = 98 ∨ c = 99 := by
        simp at mc
        exact mc
      refine ⟨("abc" : Str), d, c, rfl, rfl, (by rw [abc_lit]; exact szt (by decide)), (by rw [abc_lit]; exact ec), cs.map fun c => Tx [c], hL5, ?_, ?_⟩
      · rw [List.length_map, hcl]
        exact Nat.lt_of_lt_of_le (show i < 100000 by omega) (by decide)
      · refine ⟨cs ++ [c], ha.app (Abc.one hc), by simp [hcl], ?_, ?_, ?_⟩
        · rw [List.map_append]
          exact upd_same
        · exact (S4.trans S5).mut nL
        · exact B5.upd nLb.symm
    · rintro H4 ⟨cs, ha, hcl, hL, S4, B4⟩
      refine ⟨_, L, cs.map (fun c => tx [c]), rfl, rfl, .inl (SqL.of (by rw [List.map_map]; exact hL)), ?_, ?_⟩
      · rw [List.map_map, nil_lit]
        have e : ∀ l : List Nat, (l.map ((fun x : Str => x.length) ∘ fun c => tx [c])).sum = l.length := by
          intro l
          induction l with
          | nil => rfl
          | cons x l ih =>
            rw [List.map_cons, List.sum_cons, ih, List.length_cons]
            show (tx [x]).length + l.length = l.length + 1
            rw [tx_len]
            simp
            omega
        rw [e, List.length_map, tx_len]
        simp
        omega
      · rw [nil_lit, join_abc]
        exact k _ _ ha (by omega) (S3.trans S4) (B4.mono (by omega))
abbrev s__law_near : Stmt := topS 45
abbrev N__law_near : List Str := ["bag", "word", "way", "sign"]
theorem sc__law_near : FnScope ["bag", "word", "way", "sign"] ["bag", "word"] (defScope s__law_near) := ⟨rfl, rfl, rfl, by decide +kernel, rfl, by decide +kernel, by decide +kernel⟩

abbrev s__law_some : Stmt := topS 47
abbrev N__law_some : List Str := ["bag", "pool"]
theorem sc__law_some : FnScope ["bag", "pool"] ["bag", "pool"] (defScope s__law_some) := ⟨rfl, rfl, rfl, by decide +kernel, rfl, by decide +kernel, by decide +kernel⟩

theorem a_lit : ("a" : Str) = tx [97] := by decide +kernel
theorem atx {l m : List Nat} (h : Abc l) (e : l = m) : Abc m := e ▸ h
def spNear : Sp := fun vs H Q _ => ∃ (b : Addr) (n : Nat) (l : List Nat), vs = [.ref b, Tx l] ∧ Bag H b n ∧ n + 10 < 2 ^ 30 ∧ Abc l ∧ l.length ≤ 12 ∧ ∀ m H', Abc m → m.length ≤ 12 → Stp [b] H H' → Bag H' b (n + 3) → Q (Tx m) H'
theorem cl__law_near {f : Addr} {fd : FuncData} (D : Df K mg "_law_near" s__law_near ["bag", "word"] f fd) (T : Nm mg) (c__law_draw : Cl P w K mg base 1 "_law_draw" s__law_draw ["bag", "upto"] spDraw) : Cl P w K mg base 2 "_law_near" s__law_near ["bag", "word"] spNear := by
  refine D.cl sc__law_near (fun vs H Q E h => ?_) (fun cdv A outer s H vs Q E hr h => ?_)
  · obtain ⟨b, n, l, rfl, _⟩ := h
    rfl
  · obtain ⟨b, n, l, rfl, B, hn, ha, hl, k⟩ := h
    refine ⟨_, (pss_cons (ps_par (i := 2) (j := 3) rfl sc__law_near.nd rfl rfl (by decide) rfl rfl (pa_cons (pe_cl c__law_draw hr (by omega) (pa_cons (pv 0) (pa_cons pe_int pa_nil))) (pa_cons (pe_ix ix_str pe_str (pe_cl c__law_draw hr (by omega) (pa_cons (pv 0) (pa_cons pe_int pa_nil))) (fun _ _ => rfl)) pa_nil)) (by rfl))
      (pss_cons (ps_if (pt_cmpR op_lt (pv 2) pe_int (by first | exact nomark _ | rfl)) (pss_one (ps_ret (pv 1))) pss_nil)
      (pss_cons (ps_if (pt_cmpR op_lt (pv 2) pe_int (by first | exact nomark _ | rfl)) (pss_one (ps_ret (pe_slice sl_str (pe_op op_add_str (pe_op op_add_str (pv 1) (pe_op Pg.op_mul_str pe_str (pe_op op_sub (pv 2) pe_int))) (pv 3)) po_none (po_some pe_int)))) pss_nil)
      (pss_cons (ps_if (pt_cmpR op_eq (pv 2) pe_int (by first | exact nomark _ | rfl)) (pss_one (ps_ret (pe_slice sl_str (pe_op op_add_str (pv 1) (pe_op Pg.op_mul_str (pv 3) pe_int)) po_none (po_some pe_int)))) pss_nil)
      (pss_cons (ps_if (pt_cmpR op_eq (pv 2) pe_int (by first | exact nomark _ | rfl)) (pss_one (ps_ret (pe_op op_add_str (pe_slice sl_str (pv 1) po_none (po_some (pe_un un_neg pe_int))) (pv 3)))) pss_nil)
      (pss_cons (ps_if (pt_cmpR op_eq (pv 2) pe_int (by first | exact nomark _ | rfl)) (pss_one (ps_ret (pe_slice sl_str (pv 1) po_none (po_some (pe_un un_neg pe_int))))) pss_nil)
      (pss_one (ps_ret (pe_slice sl_str (pv 1) po_none (po_some (pe_cl c__law_draw hr (by omega) (pa_cons (pv 0) (pa_cons (pe_op op_add (pe_callB call_len_str (by rfl) T.n_len (by decide +kernel) (pa_cons (pv 1) pa_nil)) pe_int) pa_nil))))))))))))), ?_⟩
    refine ⟨_, rfl, b, 8, n, rfl, B, by omega, by decide, by decide, fun way H1 w0 w1 o1 B1 => ?_⟩
    refine ⟨_, rfl, b, 3, n + 1, rfl, B1, by omega, by decide, by decide, fun d H2 d0 d1 o2 B2 => ?_⟩
    have S2 : Stp [b] H H2 := (o1.stp (List.mem_singleton.mpr rfl)).trans (o2.stp (List.mem_singleton.mpr rfl))
    obtain ⟨c, mc, ec⟩ := pick (xs := [97, 98, 99]) d0 d1
    have hc : c = 97 ∨ c = 98 ∨ c = 99 := by
      simp at mc
      exact mc
    refine ⟨("abc" : Str), d, c, rfl, rfl, (by rw [abc_lit]; exact szt (by decide)), (by rw [abc_lit]; exact ec), _, _, rfl, ?_⟩
    refine ⟨_, rfl, _, _, rfl, rfl, _, rfl, ite2 (fun h1 => ?_) (fun h1 => ?_)⟩
    · exact ⟨_, rfl, k _ _ ha hl S2 (B2.mono (by omega))⟩
    have h1 : ¬ way < 2 := fun q => h1 (decide_eq_true q)
    refine ⟨_, rfl, _, _, rfl, rfl, _, rfl, ite2 (fun h2 => ?_) (fun h2 => ?_)⟩
    · have h2 : way < 4 := of_decide_eq_true h2
      refine ⟨_, rfl, _, rfl, _, _, rfl, rfl, tx [97], way - 2, congrArg V.str a_lit, rfl, mulOk 97 (by omega) (by omega), ?_⟩
      refine ⟨tx l, tx (List.replicate (way - 2).toNat 97), rfl, congrArg V.str (tx_mul _ _), (by rw [tx_len, tx_len, List.length_replicate]; exact sz (by omega)), ?_⟩
      refine ⟨_, rfl, tx (l ++ List.replicate (way - 2).toNat 97), tx [c], congrArg V.str (tx_app _ _), rfl, (by rw [tx_len, tx_len, List.length_append, List.length_replicate, List.length_singleton]; exact sz (by omega)), 12, rfl, ?_⟩
      refine ⟨tx (l ++ List.replicate (way - 2).toNat 97 ++ [c]), congrArg V.str (tx_app _ _), szt (by simp; omega), ?_⟩
      show Q _ _
      rw [show cutS _ none (some 12) = _ from tx_upto _ 12]
      exact k _ _ (((ha.app (Abc.rep _ (.inl rfl))).app (Abc.one hc)).take 12) (by rw [List.length_take]; omega) S2 (B2.mono (by omega))
    have h2 : ¬ way < 4 := fun q => h2 (decide_eq_true q)
    refine ⟨_, rfl, rfl, _, rfl, ite2 (fun h3 => ?_) (fun h3 => ?_)⟩
    · refine ⟨_, rfl, _, rfl, tx [c], 12, rfl, rfl, mulOk c (by decide) (by decide), ?_⟩
      refine ⟨tx l, tx (List.replicate (12 : Int).toNat c), rfl, congrArg V.str (tx_mul _ _), (by rw [tx_len, tx_len, List.length_replicate]; exact sz (by simp; omega)), 12, rfl, ?_⟩
      refine ⟨tx (l ++ List.replicate (12 : Int).toNat c), congrArg V.str (tx_app _ _), szt (by simp; omega), ?_⟩
      show Q _ _
      rw [show cutS _ none (some 12) = _ from tx_upto _ 12]
      exact k _ _ ((ha.app (Abc.rep _ hc)).take 12) (by rw [List.length_take]; omega) S2 (B2.mono (by omega))
    refine ⟨_, rfl, rfl, _, rfl, ite2 (fun h4 => ?_) (fun h4 => ?_)⟩
    · refine ⟨_, rfl, 1, rfl, -1, rfl, tx l, rfl, szt (by omega), _, rfl, tx l.dropLast, tx [c], congrArg V.str (tx_init l), rfl, (by rw [tx_len, tx_len, List.length_dropLast, List.length_singleton]; exact sz (by omega)), ?_⟩
      show Q _ _
      rw [tx_app]
      exact k _ _ (ha.init.app (Abc.one hc)) (by rw [List.length_append, List.length_dropLast, List.length_singleton]; omega) S2 (B2.mono (by omega))
    refine ⟨_, rfl, rfl, _, rfl, ite2 (fun h5 => ?_) (fun h5 => ?_)⟩
    · refine ⟨_, rfl, 1, rfl, -1, rfl, tx l, rfl, szt (by omega), ?_⟩
      show Q _ _
      rw [show cutS _ none (some (-1)) = _ from tx_init l]
      exact k _ _ ha.init (by rw [List.length_dropLast]; omega) S2 (B2.mono (by omega))
    · refine ⟨_, rfl, _, rfl, _, rfl, tx l, rfl, szt (by omega), _, _, rfl, rfl, b, _, n + 2, rfl, B2, by omega, ?_, ?_, fun d H3 d0 d1 o3 B3 => ?_⟩
      · have := tx_len l
        omega
      · have := tx_len l
        omega
      obtain ⟨e, rfl⟩ := Int.eq_ofNat_of_zero_le d0
      refine ⟨_, rfl, tx l, rfl, szt (by omega), ?_⟩
      show Q _ _
      rw [show cutS _ none (some (e : Int)) = _ from tx_upto l e]
      exact k _ _ (ha.take _) (by rw [List.length_take]; omega) (S2.trans (o3.stp (List.mem_singleton.mpr rfl))) B3
/-- a pool: some texts -/
def Pool (H : Hp) (p : Addr) (ls : List (List Nat)) : Prop := H p = some (.lst (ls.map Tx)) ∧ ∀ l ∈ ls, Abc l ∧ l.length ≤ 12
def spSome : Sp := fun vs H Q _ => ∃ (b p : Addr) (n : Nat) (ls : List (List Nat)), vs = [.ref b, .ref p] ∧ Bag H b n ∧ n + 40 < 2 ^ 30 ∧ Pool H p ls ∧ ls.length < 2 ^ 20 ∧ b ≠ p ∧ ∀ m H', Abc m → m.length ≤ 12 → Stp [b] H H' → Bag H' b (n + 20) → Q (Tx m) H'
theorem cl__law_some {f : Addr} {fd : FuncData} (D : Df K mg "_law_some" s__law_some ["bag", "pool"] f fd) (T : Nm mg) (c__law_draw : Cl P w K mg base 1 "_law_draw" s__law_draw ["bag", "upto"] spDraw)
    (c__law_near : Cl P w K mg base 2 "_law_near" s__law_near ["bag", "word"] spNear) (c__law_text : Cl P w K mg base 2 "_law_text" s__law_text ["bag"] spText) : Cl P w K mg base 3 "_law_some" s__law_some ["bag", "pool"] spSome := by
  refine D.cl sc__law_some (fun vs H Q E h => ?_) (fun cdv A outer s H vs Q E hr h => ?_)
  · obtain ⟨b, p, n, ls, rfl, _⟩ := h
    rfl
  · obtain ⟨b, p, n, ls, rfl, B, hn, ⟨hp, ha⟩, hls, ne, k⟩ := h
    refine ⟨_, (pss_cons (ps_if (PW.pt (pw_and (pt_cmpR (op_neD hr.units) (pv 1) (pe_lst pa_nil) (by first | exact nomark _ | rfl)) (pw_and1 (pt_cmpR op_gt (pe_cl c__law_draw hr (by omega) (pa_cons (pv 0) (pa_cons pe_int pa_nil))) pe_int (by first | exact nomark _ | rfl))))) (pss_one (ps_ret (pe_cl c__law_near hr (by omega) (pa_cons (pv 0) (pa_cons (pe_ix ix_list (pv 1) (pe_cl c__law_draw hr (by omega) (pa_cons (pv 0) (pa_cons (pe_callB call_len_seq (by rfl) T.n_len (by decide +kernel) (pa_cons (pv 1) pa_nil)) pa_nil))) (fun _ _ => rfl)) pa_nil))))) pss_nil)
      (pss_one (ps_ret (pe_cl c__law_text hr (by omega) (pa_cons (pv 0) pa_nil))))), ?_⟩
    have npb : p ∉ [b] := fun m => ne (List.mem_singleton.mp m).symm
    have fin : ∀ H1 m, Stp [b] H H1 → Bag H1 b m → m ≤ n + 2 → tRet (tCl spText (tCons (tVar 0) tNil)) { nx := fun _ H' => Q .non H', rt := Q } (start N__law_some [.ref b, .ref p]) H1 := fun H1 m S1 B1 hm => by
      refine ⟨_, rfl, b, m, rfl, B1, by omega, fun l H2 hl hll S2 B2 => ?_⟩
      exact k l H2 hl hll (S1.trans S2) (B2.mono (by omega))
    refine ⟨_, rfl, Nat.zero_le _, fun q hq => ?_⟩
    have S0 : Stp [b] H (upd H q (.lst [])) := Stp.new hq _
    have B0 := B.upd (o := .lst []) (B.ne hq)
    refine ne_nil_strs (SqL.of (S0.kp _ _ npb hp)) (fun l m => (ha l m).1) upd_same ?_
    cases ls with
    | nil => exact ⟨false, rfl, fin _ n S0 B0 (by omega)⟩
    | cons l0 ls =>
    refine ⟨true, rfl, ?_⟩
    refine ⟨_, rfl, b, 3, n, rfl, B0, by omega, by decide, by decide, fun d H1 d0 d1 o1 B1 => ?_⟩
    have S1 : Stp [b] H H1 := S0.trans (o1.stp (List.mem_singleton.mpr rfl))
    refine ⟨_, _, rfl, rfl, _, rfl, ite2 (fun h1 => ?_) (fun h1 => ?_)⟩
    · refine ⟨_, rfl, _, rfl, _, rfl, _, rfl, p, _, rfl, .inl (SqL.of (S1.kp _ _ npb hp)), b, _, n + 1, rfl, B1, by omega, ?_, ?_, fun e H2 e0 e1 o2 B2 => ?_⟩
      · rw [List.length_map, List.length_cons]
        omega
      · rw [List.length_map]
        omega
      have S2 : Stp [b] H H2 := S1.trans (o2.stp (List.mem_singleton.mpr rfl))
      obtain ⟨v, mv, ev⟩ := pick e0 e1
      obtain ⟨m, mm, rfl⟩ := List.mem_map.mp mv
      refine ⟨p, _, e, Tx m, rfl, rfl, SqL.of (S2.kp _ _ npb hp), ev, b, n + 2, m, rfl, B2, by omega, (ha m mm).1, (ha m mm).2, fun m' H3 a3 l3 S3 B3 => ?_⟩
      exact k m' H3 a3 l3 (S2.trans S3) (B3.mono (by omega))
    · exact fin H1 (n + 1) S1 B1 (by omega)
abbrev s_is_text : Stmt := topS 8
abbrev N_is_text : List Str := ["value"]
theorem sc_is_text : FnScope ["value"] ["value"] (defScope s_is_text) := ⟨rfl, rfl, rfl, by decide +kernel, rfl, by decide +kernel, by decide +kernel⟩

abbrev s_is_filter : Stmt := topS 26
abbrev N_is_filter : List Str := ["value"]
theorem sc_is_filter : FnScope ["value"] ["value"] (defScope s_is_filter) := ⟨rfl, rfl, rfl, by decide +kernel, rfl, by decide +kernel, by decide +kernel⟩

abbrev s_can_follow : Stmt := topS 27
abbrev N_can_follow : List Str := ["word", "part", "text", "inner"]
theorem sc_can_follow : FnScope ["word", "part", "text", "inner"] ["word", "part"] (defScope s_can_follow) := ⟨rfl, rfl, rfl, by decide +kernel, rfl, by decide +kernel, by decide +kernel⟩

/-! ### is_text, is_filter -/
def IsTx (d : Dt) : Prop := ∃ l, d = .str l ∧ Abc l
def spIsText (K : PySem.W.Frag) : Sp := fun vs H Q _ => ∃ v d, vs = [v] ∧ Rp K H v d ∧ ∀ b : Bool, (b = true ↔ IsTx d) → Q (.bl b) H
theorem cl_is_text {f : Addr} {fd : FuncData} (D : Df K mg "is_text" s_is_text ["value"] f fd) (T : Nm mg) : Cl P w K mg base 1 "is_text" s_is_text ["value"] (spIsText K) := by
  refine D.cl sc_is_text (fun vs H Q E h => ?_) (fun cdv A outer s H vs Q E hr h => ?_)
  · obtain ⟨v, d, rfl, _⟩ := h
    rfl
  · obtain ⟨v, d, rfl, r, k⟩ := h
    refine ⟨_, (pss_one (ps_ret (pe_and (pe_tyIs (T := "str") Mono.var (pv 0) T.n_type T.n_str (by decide +kernel)) (pe_one (pe_cmpR op_eq (pe_bm PySem.F.plainAttrs_str PySem.F.slot_str_strip PySem.F.type_str_strip mt_stripChars (pv 0) (pa_cons pe_str pa_nil)) pe_str (by first | exact nomark _ | rfl)))))), ?_⟩
    have no : (∀ l, d ≠ .str l) → Q (.bl false) H := fun n => k false ⟨fun e => (nomatch e), fun ⟨l, e, _⟩ => absurd e (n l)⟩
    refine ⟨_, rfl, d, r, _, rfl, ?_⟩
    cases r with
    | str l hl =>
      refine ⟨_, rfl, rfl, tx l, ("abc" : Str), rfl, rfl, szt hl, rfl, ?_⟩
      refine k _ ?_
      rw [abc_lit, nil_lit]
      constructor
      · intro h
        exact ⟨l, rfl, (strip_abc l).mp (V.str.inj (of_decide_eq_true h))⟩
      · rintro ⟨l', e, ha⟩
        cases e
        exact decide_eq_true (congrArg V.str ((strip_abc l).mpr ha))
    | _ => exact no (fun l e => nomatch e)
/-- the filters of the document -/
inductive Flt : Dt → Prop
  | tx {wd : Str} {l : List Nat} (hw : wd = "is" ∨ wd = "below" ∨ wd = "above" ∨ wd = "begins") (h : Abc l) : Flt (.tup [.str wd.cps.toList, .str l])
  | none : Flt (.tup [.str ("none" : Str).cps.toList])
  | say (b : Bool) : Flt (.tup [.str ("say" : Str).cps.toList, .bl b])
  | not {d : Dt} : Flt d → Flt (.tup [.str ("not" : Str).cps.toList, d])
  | among {ds : List Dt} : (∀ d ∈ ds, IsTx d) → Flt (.tup [.str ("among" : Str).cps.toList, .tup ds])
  | many {wd : Str} {ds : List Dt} (hw : wd = "and" ∨ wd = "or") : (∀ d ∈ ds, Flt d) → Flt (.tup [.str wd.cps.toList, .tup ds])
/-! ### what a filter is, by its first part -/
def CanF (wd : Str) (d : Dt) : Prop :=
  ((wd = "is" ∨ wd = "below" ∨ wd = "above" ∨ wd = "begins") ∧ IsTx d) ∨ (wd = "say" ∧ ∃ b, d = .bl b) ∨ (wd = "not" ∧ Flt d) ∨
  (wd = "among" ∧ ∃ ds, d = .tup ds ∧ ∀ e ∈ ds, IsTx e) ∨ ((wd = "and" ∨ wd = "or") ∧ ∃ ds, d = .tup ds ∧ ∀ e ∈ ds, Flt e)
theorem lit_tx (wd : Str) : tx wd.cps.toList = wd := by cases wd <;> simp [tx]
theorem tx_lit {l : List Nat} {wd : Str} (h : tx l = wd) : l = wd.cps.toList := by rw [← h]
theorem flt_two {l : List Nat} {d : Dt} : Flt (.tup [.str l, d]) ↔ CanF (tx l) d := by
  constructor
  · intro h
    cases h with
    | tx hw ha => exact .inl ⟨by rw [lit_tx]; exact hw, _, rfl, ha⟩
    | say b => exact .inr (.inl ⟨lit_tx _, b, rfl⟩)
    | not h => exact .inr (.inr (.inl ⟨lit_tx _, h⟩))
    | among h => exact .inr (.inr (.inr (.inl ⟨lit_tx _, _, rfl, h⟩)))
    | many hw h => exact .inr (.inr (.inr (.inr ⟨by rw [lit_tx]; exact hw, _, rfl, h⟩)))
  · rintro (⟨hw, l', rfl, ha⟩ | ⟨hw, b, rfl⟩ | ⟨hw, h⟩ | ⟨hw, ds, rfl, h⟩ | ⟨hw, ds, rfl, h⟩)
    · have := Flt.tx (wd := tx l) hw ha
      simpa [tx] using this
    · rw [tx_lit hw]
      exact .say b
    · rw [tx_lit hw]
      exact .not h
    · rw [tx_lit hw]
      exact .among h
    · have := Flt.many (wd := tx l) hw h
      simpa [tx] using this
theorem flt_one {l : List Nat} : Flt (.tup [.str l]) ↔ tx l = "none" := by
  constructor
  · intro h
    cases h
    exact lit_tx _
  · intro h
    rw [tx_lit h]
    exact .none
theorem flt_head {d : Dt} (h : Flt d) : ∃ l rest, d = .tup (.str l :: rest) ∧ rest.length ≤ 1 := by
  cases h <;> exact ⟨_, _, rfl, by simp⟩
theorem not_none {d : Dt} : ¬ CanF "none" d := by
  rintro (⟨h | h | h | h, _⟩ | ⟨h, _⟩ | ⟨h, _⟩ | ⟨h, _⟩ | ⟨h | h, _⟩) <;> exact absurd h (by decide +kernel)
theorem flt_none {rest : List Dt} {l : List Nat} (h : tx l = "none") : Flt (.tup (.str l :: rest)) ↔ rest.length = 0 := by
  constructor
  · intro f
    obtain ⟨l', r', e, hl⟩ := flt_head f
    cases e
    cases rest with
    | nil => rfl
    | cons d rest =>
      cases rest with
      | nil =>
        rw [flt_two, h] at f
        exact (not_none f).elim
      | cons _ _ => simp at hl
  · intro e
    rw [List.length_eq_zero_iff.mp e]
    exact flt_one.mpr h
theorem flt_not_none {rest : List Dt} {l : List Nat} (h : tx l ≠ "none") : Flt (.tup (.str l :: rest)) ↔ ∃ p, rest = [p] ∧ CanF (tx l) p := by
  constructor
  · intro f
    obtain ⟨l', r', e, hl⟩ := flt_head f
    cases e
    cases rest with
    | nil => exact absurd (flt_one.mp f) h
    | cons d rest =>
      cases rest with
      | nil => exact ⟨d, rfl, flt_two.mp f⟩
      | cons _ _ => simp at hl
  · rintro ⟨p, rfl, c⟩
    exact flt_two.mpr c
def spIsF (K : PySem.W.Frag) (n : Nat) : Sp := fun vs H Q _ => ∃ v d, vs = [v] ∧ Rp K H v d ∧ d.dep < n ∧ ∀ (b : Bool) H', (b = true ↔ Flt d) → Stp [] H H' → Q (.bl b) H'
def spCan (K : PySem.W.Frag) (n : Nat) : Sp := fun vs H Q _ => ∃ l v d, vs = [Tx l, v] ∧ Rp K H v d ∧ d.dep < n ∧ ∀ (b : Bool) H', (b = true ↔ CanF (tx l) d) → Stp [] H H' → Q (.bl b) H'
theorem isf_step {f : Addr} {fd : FuncData} (D : Df K mg "is_filter" s_is_filter ["value"] f fd) (T : Nm mg) {n m : Nat} (hm : 1 ≤ m) (c_can_follow : Cl P w K mg base m "can_follow" s_can_follow ["word", "part"] (spCan K n)) :
    Cl P w K mg base (m + 1) "is_filter" s_is_filter ["value"] (spIsF K (n + 1)) := by
  refine D.cl sc_is_filter (fun vs H Q E h => ?_) (fun cdv A outer s H vs Q E hr h => ?_)
  · obtain ⟨v, d, rfl, _⟩ := h
    rfl
  · obtain ⟨v, d, rfl, r, hd, k⟩ := h
    refine ⟨_, (pss_cons (ps_if (PW.pt (pw_or (pt_tyNot (T := "tuple") Mono.var (pv 0) T.n_type T.n_tuple (by decide +kernel)) (pw_or (pt_not (pt_truth (pv 0) (by intro _; rfl))) (pw_or1 (pt_tyNot (T := "str") (Mono.ixT Mono.var Mono.c) (pe_ix ix_tup (pv 0) pe_int (fun _ _ => rfl)) T.n_type T.n_str (by decide +kernel)))))) (pss_one (ps_ret pe_bl)) pss_nil)
      (pss_cons (ps_if (pt_cmpR op_eq (pe_ix ix_tup (pv 0) pe_int (fun _ _ => rfl)) pe_str (by first | exact nomark _ | rfl)) (pss_one (ps_ret (pe_cmpR op_eq (pe_callB call_len_seq (by rfl) T.n_len (by decide +kernel) (pa_cons (pv 0) pa_nil)) pe_int (by first | exact nomark _ | rfl)))) pss_nil)
      (pss_one (ps_ret (pe_and (pe_cmpR op_eq (pe_callB call_len_seq (by rfl) T.n_len (by decide +kernel) (pa_cons (pv 0) pa_nil)) pe_int (by first | exact nomark _ | rfl)) (pe_one (pe_cl c_can_follow hr (by omega) (pa_cons (pe_ix ix_tup (pv 0) pe_int (fun _ _ => rfl)) (pa_cons (pe_ix ix_tup (pv 0) pe_int (fun _ _ => rfl)) pa_nil))))))))), ?_⟩
    have no : ¬ Flt d → Q (.bl false) H := fun n => k false H ⟨fun e => (nomatch e), fun f => absurd f n⟩ (Stp.refl _ _)
    refine ⟨_, rfl, d, r, ?_⟩
    cases r with
    | tup hs hn rl =>
      rename_i a xs ds
      rw [if_neg (by simp [Dt.ty])]
      refine ⟨_, rfl, _, .inr (.inl ⟨_, hs, rfl⟩), ?_⟩
      cases rl with
      | nil =>
        refine no fun f => ?_
        obtain ⟨l, rest, e, _⟩ := flt_head f
        cases e
      | cons r0 rr =>
        rename_i v0 vr d0 dr
        refine ⟨_, rfl, a, _, 0, v0, rfl, rfl, hs, at0, d0, r0, ?_⟩
        cases r0 with
        | str l hl =>
          rw [if_neg (by simp [Dt.ty])]
          refine ⟨_, rfl, a, _, 0, Tx l, rfl, rfl, hs, at0, rfl, _, rfl, ite2 (fun h1 => ?_) (fun h1 => ?_)⟩
          · have h1 : tx l = "none" := V.str.inj (of_decide_eq_true h1)
            refine ⟨_, rfl, a, _, rfl, .inr hs, rfl, ?_⟩
            refine k _ H ?_ (Stp.refl _ _)
            rw [flt_none h1, decide_eq_true_iff]
            constructor
            · intro e
              have e := V.int.inj e
              rw [List.length_cons, rr.len] at e
              omega
            · intro e
              rw [List.length_cons, rr.len, e]
              rfl
          · have h1 : tx l ≠ "none" := fun e => h1 (decide_eq_true (congrArg V.str e))
            refine ⟨_, rfl, a, _, rfl, .inr hs, rfl, _, rfl, ite2 (fun h2 => ?_) (fun h2 => ?_)⟩
            · have hlen : vr.length = 1 := by
                have := V.int.inj (of_decide_eq_true h2)
                rw [List.length_cons] at this
                omega
              obtain ⟨v1, d1, rfl, rfl, r1⟩ := rr.one hlen
              refine ⟨_, rfl, a, _, 0, Tx l, rfl, rfl, hs, at0, _, rfl, a, _, 1, v1, rfl, rfl, hs, at1, l, v1, d1, rfl, r1, ?_, fun b H' hb S => ?_⟩
              · have := Dt.dep_mem (ds := [Dt.str l, d1]) (d := d1) (by simp)
                have e : (Dt.tup [Dt.str l, d1]).dep = Dt.depL [Dt.str l, d1] + 1 := rfl
                omega
              · refine k b H' ?_ S
                rw [hb, flt_two]
            · refine k false H ⟨fun e => (nomatch e), fun f => ?_⟩ (Stp.refl _ _)
              rw [flt_not_none h1] at f
              obtain ⟨p, rfl, _⟩ := f
              refine absurd (decide_eq_true ?_) h2
              rw [List.length_cons, rr.len]
              rfl
        | _ =>
          rw [if_pos (by simp [Dt.ty])]
          refine no fun f => ?_
          obtain ⟨l, rest, e, _⟩ := flt_head f
          cases e
    | _ =>
      rw [if_pos (by simp [Dt.ty])]
      refine no fun f => ?_
      obtain ⟨l, rest, e, _⟩ := flt_head f
      cases e
/-- all of them: the truths of a list, one for each part -/
theorem all_iff {P : Dt → Prop} : ∀ {bs : List Bool} {ds : List Dt}, bs.length = ds.length → (∀ (j : Nat) b d, bs[j]? = some b → ds[j]? = some d → (b = true ↔ P d)) → (bs.all id = true ↔ ∀ d ∈ ds, P d)
  | [], [], _, _ => by simp
  | b :: bs, d :: ds, hl, h => by
    have ih := all_iff (P := P) (bs := bs) (ds := ds) (by simpa using hl) fun j b d e1 e2 => h (j + 1) b d (by simpa using e1) (by simpa using e2)
    have h0 := h 0 b d rfl rfl
    rw [List.all_cons, Bool.and_eq_true, ih]
    simp only [id]
    rw [h0]
    simp
/-- one truth more -/
theorem more_iff {P : Dt → Prop} {bs : List Bool} {ds : List Dt} {b : Bool} {d : Dt} (h : ∀ (j : Nat) b d, bs[j]? = some b → ds[j]? = some d → (b = true ↔ P d)) (e : ds[bs.length]? = some d) (hb : b = true ↔ P d) :
    ∀ (j : Nat) b' d', (bs ++ [b])[j]? = some b' → ds[j]? = some d' → (b' = true ↔ P d') := fun j b' d' e1 e2 => by
  by_cases hj : j < bs.length
  · rw [List.getElem?_append_left hj] at e1
    exact h j b' d' e1 e2
  · rw [List.getElem?_append_right (by omega)] at e1
    have hj2 : j - bs.length = 0 := by
      have := (List.getElem?_eq_some_iff.mp e1).1
      simp at this
      omega
    have e3 : j = bs.length := by omega
    subst e3
    rw [e] at e2
    cases e2
    simp at e1
    subst e1
    exact hb
theorem can_is {wd : Str} {d : Dt} (h : wd = "is" ∨ wd = "below" ∨ wd = "above" ∨ wd = "begins") : CanF wd d ↔ IsTx d := by
  refine ⟨fun q => ?_, fun q => .inl ⟨h, q⟩⟩
  rcases q with ⟨_, q⟩ | ⟨e, _⟩ | ⟨e, _⟩ | ⟨e, _⟩ | ⟨e | e, _⟩
  · exact q
  all_goals (subst e; exact absurd h (by decide +kernel))
theorem can_say {d : Dt} : CanF "say" d ↔ ∃ b, d = .bl b := by
  refine ⟨fun q => ?_, fun q => .inr (.inl ⟨rfl, q⟩)⟩
  rcases q with ⟨e, _⟩ | ⟨_, q⟩ | ⟨e, _⟩ | ⟨e, _⟩ | ⟨e, _⟩
  · exact absurd e (by decide +kernel)
  · exact q
  all_goals exact absurd e (by decide +kernel)
theorem can_not {d : Dt} : CanF "not" d ↔ Flt d := by
  refine ⟨fun q => ?_, fun q => .inr (.inr (.inl ⟨rfl, q⟩))⟩
  rcases q with ⟨e, _⟩ | ⟨e, _⟩ | ⟨_, q⟩ | ⟨e, _⟩ | ⟨e, _⟩
  · exact absurd e (by decide +kernel)
  · exact absurd e (by decide +kernel)
  · exact q
  all_goals exact absurd e (by decide +kernel)
theorem can_among {d : Dt} : CanF "among" d ↔ ∃ ds, d = .tup ds ∧ ∀ e ∈ ds, IsTx e := by
  refine ⟨fun q => ?_, fun q => .inr (.inr (.inr (.inl ⟨rfl, q⟩)))⟩
  rcases q with ⟨e, _⟩ | ⟨e, _⟩ | ⟨e, _⟩ | ⟨_, q⟩ | ⟨e, _⟩
  · exact absurd e (by decide +kernel)
  · exact absurd e (by decide +kernel)
  · exact absurd e (by decide +kernel)
  · exact q
  · exact absurd e (by decide +kernel)
theorem can_many {wd : Str} {d : Dt} (h : wd = "and" ∨ wd = "or") : CanF wd d ↔ ∃ ds, d = .tup ds ∧ ∀ e ∈ ds, Flt e := by
  refine ⟨fun q => ?_, fun q => .inr (.inr (.inr (.inr ⟨h, q⟩)))⟩
  rcases q with ⟨e | e | e | e, _⟩ | ⟨e, _⟩ | ⟨e, _⟩ | ⟨e, _⟩ | ⟨_, q⟩
  all_goals first | exact q | (subst e; exact absurd h (by decide +kernel))
theorem can_other {wd : Str} {d : Dt} (h : wd ∉ (["is", "below", "above", "begins"] : List Str)) (h2 : wd ≠ "say") (h3 : wd ≠ "not") (h4 : wd ≠ "among") (h5 : wd ∉ (["and", "or"] : List Str)) : ¬ CanF wd d := by
  rintro (⟨e, _⟩ | ⟨e, _⟩ | ⟨e, _⟩ | ⟨e, _⟩ | ⟨e, _⟩)
  · exact h (by simpa using e)
  · exact h2 e
  · exact h3 e
  · exact h4 e
  · exact h5 (by simpa using e)
theorem can_step {f : Addr} {fd : FuncData} (D : Df K mg "can_follow" s_can_follow ["word", "part"] f fd) (T : Nm mg) {n m : Nat} (hm : 1 ≤ m) (c_is_text : Cl P w K mg base 1 "is_text" s_is_text ["value"] (spIsText K))
    (c_is_filter : Cl P w K mg base m "is_filter" s_is_filter ["value"] (spIsF K n)) : Cl P w K mg base (m + 1) "can_follow" s_can_follow ["word", "part"] (spCan K n) := by
  refine D.cl sc_can_follow (fun vs H Q E h => ?_) (fun cdv A outer s H vs Q E hr h => ?_)
  · obtain ⟨l, v, d, rfl, _⟩ := h
    rfl
  · obtain ⟨l, v, d, rfl, r, hd, k⟩ := h
    refine ⟨_, (pss_cons (ps_if (pt_cmpR op_in_seq (pv 0) (pe_tup (pa_cons pe_str (pa_cons pe_str (pa_cons pe_str (pa_cons pe_str pa_nil))))) (by first | exact nomark _ | rfl)) (pss_one (ps_ret (pe_cl c_is_text hr (by omega) (pa_cons (pv 1) pa_nil)))) pss_nil)
      (pss_cons (ps_if (pt_cmpR op_eq (pv 0) pe_str (by first | exact nomark _ | rfl)) (pss_one (ps_ret (pe_tyIs (T := "bool") Mono.var (pv 1) T.n_type T.n_bool (by decide +kernel)))) pss_nil)
      (pss_cons (ps_if (pt_cmpR op_eq (pv 0) pe_str (by first | exact nomark _ | rfl)) (pss_one (ps_ret (pe_cl c_is_filter hr (by omega) (pa_cons (pv 1) pa_nil)))) pss_nil)
      (pss_cons (ps_if (pt_cmpR op_eq (pv 0) pe_str (by first | exact nomark _ | rfl)) (pss_one (ps_ret (pe_and (pe_tyIs (T := "tuple") Mono.var (pv 1) T.n_type T.n_tuple (by decide +kernel)) (pe_one (pe_callB (cr_all rfl) (by rfl) T.n_all (by decide +kernel) (pa_cons (pe_lc (own := [("text", 2)]) rfl sc_can_follow.nd (pi_tup (pv 1)) (blkOk_by (own := [("text", 2)]) (N := N_can_follow) (sc := defScope s_can_follow) (by decide +kernel)) (fun _ _ _ _ _ => (pg_name (i := 2) sc_can_follow.nd rfl (by first | exact Or.inl rfl | exact Or.inr rfl))) (fun _ _ _ _ _ => pts_nil) (fun _ _ _ _ _ => (pe_cl c_is_text hr (by omega) (pa_cons (pv 2) pa_nil)))) pa_nil)))))) pss_nil)
      (pss_cons (ps_if (pt_cmpR op_in_seq (pv 0) (pe_tup (pa_cons pe_str (pa_cons pe_str pa_nil))) (by first | exact nomark _ | rfl)) (pss_one (ps_ret (pe_and (pe_tyIs (T := "tuple") Mono.var (pv 1) T.n_type T.n_tuple (by decide +kernel)) (pe_one (pe_callB (cr_all rfl) (by rfl) T.n_all (by decide +kernel) (pa_cons (pe_lc (own := [("inner", 3)]) rfl sc_can_follow.nd (pi_tup (pv 1)) (blkOk_by (own := [("inner", 3)]) (N := N_can_follow) (sc := defScope s_can_follow) (by decide +kernel)) (fun _ _ _ _ _ => (pg_name (i := 3) sc_can_follow.nd rfl (by first | exact Or.inl rfl | exact Or.inr rfl))) (fun _ _ _ _ _ => pts_nil) (fun _ _ _ _ _ => (pe_cl c_is_filter hr (by omega) (pa_cons (pv 3) pa_nil)))) pa_nil)))))) pss_nil)
      (pss_one (ps_ret pe_bl))))))), ?_⟩
    refine ⟨_, rfl, (by show 4 ≤ sizeLine; decide), fun t nt => ?_⟩
    have S1 : Stp [] H (upd H t (.tup [.str "is", .str "below", .str "above", .str "begins"])) := Stp.new nt _
    refine ⟨t, _, rfl, .inr (SqT.of upd_same), rfl, rfl, _, rfl, ?_⟩
    generalize upd H t (.tup [.str "is", .str "below", .str "above", .str "begins"]) = H1 at *
    have r1 : Rp K H1 v d := r.stp S1 Lsts.nil
    have i1 := inV_str (tx l) (["is", "below", "above", "begins"] : List Str)
    refine ite2 (fun h1 => ?_) (fun h1 => ?_)
    · refine ⟨_, rfl, v, d, rfl, r1, fun b hb => ?_⟩
      refine k b _ ?_ S1
      have h2 : inV (Tx l) ((["is", "below", "above", "begins"] : List Str).map V.str) = true := h1
      rw [i1] at h2
      rw [hb, can_is (by simpa using of_decide_eq_true h2)]
    have g1 : tx l ∉ (["is", "below", "above", "begins"] : List Str) := fun q => h1 (i1.trans (decide_eq_true q))
    refine ⟨_, rfl, rfl, _, rfl, ite2 (fun h2 => ?_) (fun h2 => ?_)⟩
    · have h2 : tx l = "say" := V.str.inj (of_decide_eq_true h2)
      refine ⟨_, rfl, d, r1, k _ _ ?_ S1⟩
      rw [h2, can_say, Bool.false_xor, decide_eq_true_iff]
      constructor
      · intro e
        cases d <;> simp [Dt.ty] at e
        exact ⟨_, rfl⟩
      · rintro ⟨b, rfl⟩
        rfl
    have g2 : tx l ≠ "say" := fun e => h2 (decide_eq_true (congrArg V.str e))
    refine ⟨_, rfl, rfl, _, rfl, ite2 (fun h3 => ?_) (fun h3 => ?_)⟩
    · have h3 : tx l = "not" := V.str.inj (of_decide_eq_true h3)
      refine ⟨_, rfl, v, d, rfl, r1, hd, fun b H' hb S => k b H' ?_ (S1.trans S)⟩
      rw [hb, h3, can_not]
    have g3 : tx l ≠ "not" := fun e => h3 (decide_eq_true (congrArg V.str e))
    refine ⟨_, rfl, rfl, _, rfl, ite2 (fun h4 => ?_) (fun h4 => ?_)⟩
    · have h4 : tx l = "among" := V.str.inj (of_decide_eq_true h4)
      refine ⟨_, rfl, d, r1, _, rfl, ?_⟩
      cases r1 with
      | tup hs hn rl =>
        rename_i a xs ds
        rw [if_pos (by simp [Dt.ty])]
        refine ⟨_, rfl, a, rfl, ⟨_, hs⟩, fun L nL => ?_⟩
        refine lc_tup (a := a) (xs := xs) (fun i H2 => ∃ bs : List Bool, bs.length = i ∧ H2 L = some (.lst (bs.map V.bl)) ∧ Stp [] H1 H2 ∧ ∀ (j : Nat) b d, bs[j]? = some b → ds[j]? = some d → (b = true ↔ IsTx d))
          ⟨[], rfl, upd_same, Stp.new nL _, fun j b d e => by simp at e⟩ (fun i H2 _ ⟨bs, _, _, S, _⟩ => sqt_stp S Lsts.nil hs) ?_ ?_
        · rintro i x H2 hi ⟨bs, hl, hL, S, hb⟩
          obtain ⟨e, he, re⟩ := rl.get hi
          refine ⟨rfl, _, rfl, x, e, rfl, re.stp S Lsts.nil, fun b hbe => ?_⟩
          refine ⟨bs.map V.bl, hL, ?_, bs ++ [b], by simp [hl], ?_, S.mut nL, more_iff hb (by rw [hl]; exact he) hbe⟩
          · have h1 := (List.getElem?_eq_some_iff.mp hi).1
            rw [List.length_map, hl]
            exact Nat.lt_of_lt_of_le (show i < 100000 by omega) (by decide)
          · rw [List.map_append]
            exact upd_same
        · rintro H2 ⟨bs, hl, hL, S, hb⟩
          refine ⟨L, bs, rfl, SqL.of hL, k _ _ ?_ (S1.trans S)⟩
          rw [all_iff (by rw [hl, rl.len]) hb, h4, can_among]
          exact ⟨fun q => ⟨ds, rfl, q⟩, fun ⟨ds', e, q⟩ => by cases e; exact q⟩
      | _ =>
        rw [if_neg (by simp [Dt.ty])]
        refine k _ _ ⟨fun e => (nomatch e), fun q => ?_⟩ S1
        rw [h4, can_among] at q
        obtain ⟨ds, e, _⟩ := q
        cases e
    have g4 : tx l ≠ "among" := fun e => h4 (decide_eq_true (congrArg V.str e))
    refine ⟨_, rfl, (by show 2 ≤ sizeLine; decide), fun t2 nt2 => ?_⟩
    have S2 : Stp [] H1 (upd H1 t2 (.tup [.str "and", .str "or"])) := Stp.new nt2 _
    refine ⟨t2, _, rfl, .inr (SqT.of upd_same), rfl, rfl, _, rfl, ?_⟩
    generalize upd H1 t2 (.tup [.str "and", .str "or"]) = H2 at *
    have r2 : Rp K H2 v d := r1.stp S2 Lsts.nil
    have i2 := inV_str (tx l) (["and", "or"] : List Str)
    have SS := S1.trans S2
    refine ite2 (fun h5 => ?_) (fun h5 => ?_)
    · have h6 : inV (Tx l) ((["and", "or"] : List Str).map V.str) = true := h5
      rw [i2] at h6
      have h7 : tx l = "and" ∨ tx l = "or" := by simpa using of_decide_eq_true h6
      refine ⟨_, rfl, d, r2, _, rfl, ?_⟩
      cases r2 with
      | tup hs hn rl =>
        rename_i a xs ds
        rw [if_pos (by simp [Dt.ty])]
        refine ⟨_, rfl, a, rfl, ⟨_, hs⟩, fun L nL => ?_⟩
        refine lc_tup (a := a) (xs := xs) (fun i H3 => ∃ bs : List Bool, bs.length = i ∧ H3 L = some (.lst (bs.map V.bl)) ∧ Stp [] H2 H3 ∧ ∀ (j : Nat) b d, bs[j]? = some b → ds[j]? = some d → (b = true ↔ Flt d))
          ⟨[], rfl, upd_same, Stp.new nL _, fun j b d e => by simp at e⟩ (fun i H3 _ ⟨bs, _, _, S, _⟩ => sqt_stp S Lsts.nil hs) ?_ ?_
        · rintro i x H3 hi ⟨bs, hl, hL, S, hb⟩
          obtain ⟨e, he, re⟩ := rl.get hi
          refine ⟨rfl, _, rfl, x, e, rfl, re.stp S Lsts.nil, ?_, fun b H4 hbe S4 => ?_⟩
          · have h1 := Dt.dep_mem (List.mem_of_getElem? he)
            have h2 : (Dt.tup ds).dep = Dt.depL ds + 1 := rfl
            omega
          refine ⟨bs.map V.bl, S4.kp _ _ (fun m => nomatch m) hL, ?_, bs ++ [b], by simp [hl], ?_, (S.trans S4).mut nL, more_iff hb (by rw [hl]; exact he) hbe⟩
          · have h1 := (List.getElem?_eq_some_iff.mp hi).1
            rw [List.length_map, hl]
            exact Nat.lt_of_lt_of_le (show i < 100000 by omega) (by decide)
          · rw [List.map_append]
            exact upd_same
        · rintro H3 ⟨bs, hl, hL, S, hb⟩
          refine ⟨L, bs, rfl, SqL.of hL, k _ _ ?_ (SS.trans S)⟩
          rw [all_iff (by rw [hl, rl.len]) hb, can_many h7]
          exact ⟨fun q => ⟨ds, rfl, q⟩, fun ⟨ds', e, q⟩ => by cases e; exact q⟩
      | _ =>
        rw [if_neg (by simp [Dt.ty])]
        refine k _ _ ⟨fun e => (nomatch e), fun q => ?_⟩ SS
        rw [can_many h7] at q
        obtain ⟨ds, e, _⟩ := q
        cases e
    have g5 : tx l ∉ (["and", "or"] : List Str) := fun q => h5 (i2.trans (decide_eq_true q))
    exact k _ _ ⟨fun e => (nomatch e), fun q => absurd q (can_other g1 g2 g3 g4 g5)⟩ SS
/-- a promise that asks for nothing -/
theorem cl_never {x : Str} {st : Stmt} {ps : List Str} {f : Addr} {fd : FuncData} (D : Df K mg x st ps f fd) {sp : Sp} (h : ∀ vs H Q E, ¬ sp vs H Q E) (k : Nat) : Cl P w K mg base k x st ps sp :=
  ⟨f, fd, D, ⟨fun vs H Q E q => absurd q (h vs H Q E), fun A outer s H args us vs Q E _ _ _ _ q => absurd q (h vs H Q E)⟩⟩
theorem both_filter {f1 f2 f3 : Addr} {fd1 fd2 fd3 : FuncData} (D1 : Df K mg "is_text" s_is_text ["value"] f1 fd1) (D2 : Df K mg "is_filter" s_is_filter ["value"] f2 fd2) (D3 : Df K mg "can_follow" s_can_follow ["word", "part"] f3 fd3) (T : Nm mg) :
    ∀ n : Nat, Cl P w K mg base (2 * n + 1) "is_filter" s_is_filter ["value"] (spIsF K n) ∧ Cl P w K mg base (2 * n + 2) "can_follow" s_can_follow ["word", "part"] (spCan K n)
  | 0 => by
    have h1 : Cl P w K mg base 1 "is_filter" s_is_filter ["value"] (spIsF K 0) := cl_never D2 (fun vs H Q E ⟨v, d, _, _, hd, _⟩ => Nat.not_lt_zero _ hd) 1
    exact ⟨h1, can_step D3 T (Nat.le_refl _) (cl_is_text D1 T) h1⟩
  | n + 1 => by
    obtain ⟨h1, h2⟩ := both_filter D1 D2 D3 T n
    have h3 : Cl P w K mg base (2 * (n + 1) + 1) "is_filter" s_is_filter ["value"] (spIsF K (n + 1)) := (isf_step D2 T (by omega) h2).mono (by omega)
    exact ⟨h3, can_step D3 T (by omega) (cl_is_text D1 T) h3⟩
/-! ### spans: what they are -/
abbrev Txt := List Nat
abbrev Pr := Txt × Option Txt
theorem le_of_nlt {a b : Txt} (h : ¬ b < a) : a ≤ b := List.not_lt.mp h
theorem nlt_of_le {a b : Txt} (h : a ≤ b) : ¬ b < a := List.not_lt.mpr h
theorem lt_le {a b c : Txt} (h : a < b) (g : b ≤ c) : a < c := by
  by_cases q : a < c
  · exact q
  · exact absurd (List.lt_of_le_of_lt (le_of_nlt q) h) (nlt_of_le g)
theorem le_lt {a b c : Txt} (h : a ≤ b) (g : b < c) : a < c := List.lt_of_le_of_lt h g
theorem lt_le' {a b : Txt} (h : a < b) : a ≤ b := List.le_of_lt h
theorem nil_le (a : Txt) : ([] : Txt) ≤ a := le_of_nlt (by intro h; cases h)
def Short (l : Txt) : Prop := Abc l ∧ l.length ≤ 40
def PrOk (p : Pr) : Prop := Short p.1 ∧ ∀ e, p.2 = some e → Short e ∧ p.1 < e
def PrS (p : Pr) : Prop := Short p.1 ∧ ∀ e, p.2 = some e → Short e
theorem PrOk.s {p : Pr} (h : PrOk p) : PrS p := ⟨h.1, fun e q => (h.2 e q).1⟩
def Gap (p q : Pr) : Prop := ∃ e, p.2 = some e ∧ e < q.1
structure SpOk (ps : List Pr) : Prop where
  ok : ∀ p ∈ ps, PrOk p
  gap : ps.Pairwise Gap
theorem SpOk.nil : SpOk [] := ⟨fun _ m => (nomatch m), .nil⟩
theorem SpOk.tail {p : Pr} {ps : List Pr} (h : SpOk (p :: ps)) : SpOk ps := ⟨fun q m => h.ok q (List.mem_cons_of_mem _ m), (List.pairwise_cons.mp h.gap).2⟩
/-- a text stands in a range, in a span -/
def inP (w : Txt) (p : Pr) : Bool := decide (p.1 ≤ w) && (match p.2 with | none => true | some e => decide (w < e))
def inS (ps : List Pr) (w : Txt) : Bool := ps.any (inP w)
theorem inP_low {w : Txt} {p : Pr} (h : w < p.1) : inP w p = false := by
  unfold inP
  rw [decide_eq_false (fun q => nlt_of_le q h)]
  rfl
theorem inS_low {ps : List Pr} {w : Txt} (h : ∀ p ∈ ps, w < p.1) : inS ps w = false := by
  unfold inS
  rw [List.any_eq_false]
  intro p m
  rw [inP_low (h p m)]
  simp
theorem firsts {p : Pr} {ps : List Pr} {w : Txt} (h : SpOk (p :: ps)) (g : w ≤ p.1) : ∀ q ∈ ps, w < q.1 := fun q m => by
  obtain ⟨e, e1, e2⟩ := (List.pairwise_cons.mp h.gap).1 q m
  exact le_lt g (List.lt_trans ((h.ok p List.mem_cons_self).2 e e1).2 e2)
/-- what follows an end -/
def past (e : Option Txt) (g : Txt → List Pr) : List Pr := match e with | none => [] | some e => g e
/-- the gaps behind a start -/
def opps : Txt → List Pr → List Pr
  | a, [] => [(a, none)]
  | a, (f, e) :: ps => (if a < f then [(a, some f)] else []) ++ past e fun e => opps e ps
theorem opps_ok : ∀ (ps : List Pr) (a : Txt), SpOk ps → Short a → (∀ p ∈ ps, a ≤ p.1) → SpOk (opps a ps) ∧ ∀ p ∈ opps a ps, a ≤ p.1
  | [], a, _, sa, _ => ⟨⟨fun p m => by
      rw [List.mem_singleton.mp m]
      exact ⟨sa, fun e q => by cases q⟩, List.pairwise_singleton _ _⟩, fun p m => by
      rw [List.mem_singleton.mp m]
      exact le_of_nlt (List.lt_irrefl _)⟩
  | (f, e) :: ps, a, h, sa, g => by
    have gf : a ≤ f := g (f, e) List.mem_cons_self
    have pf := h.ok (f, e) List.mem_cons_self
    have rest : SpOk (past e fun e => opps e ps) ∧ ∀ p ∈ (past e fun e => opps e ps), f < p.1 := by
      cases e with
      | none => exact ⟨.nil, fun _ m => nomatch m⟩
      | some e =>
        obtain ⟨s1, s2⟩ := pf.2 e rfl
        obtain ⟨r1, r2⟩ := opps_ok ps e h.tail s1 fun q m => by
          obtain ⟨e', q1, q2⟩ := (List.pairwise_cons.mp h.gap).1 q m
          cases q1
          exact lt_le' q2
        exact ⟨r1, fun p m => lt_le s2 (r2 p m)⟩
    unfold opps
    obtain ⟨r1, r2⟩ := rest
    by_cases c : a < f
    · rw [if_pos c]
      refine ⟨⟨fun p m => ?_, List.pairwise_cons.mpr ⟨fun q m => ⟨f, rfl, r2 q m⟩, r1.gap⟩⟩, fun p m => ?_⟩
      · rcases List.mem_cons.mp m with rfl | m
        · exact ⟨sa, fun e q => by cases q; exact ⟨pf.1, c⟩⟩
        · exact r1.ok p m
      · rcases List.mem_cons.mp m with rfl | m
        · exact le_of_nlt (List.lt_irrefl _)
        · exact lt_le' (le_lt gf (r2 p m))
    · rw [if_neg c]
      exact ⟨r1, fun p m => lt_le' (le_lt gf (r2 p m))⟩
theorem opps_in : ∀ (ps : List Pr) (a w : Txt), SpOk ps → Short a → (∀ p ∈ ps, a ≤ p.1) → a ≤ w → inS (opps a ps) w = !inS ps w
  | [], a, w, _, _, _, h => by simp [opps, inS, inP, h]
  | (f, e) :: ps, a, w, h, sa, g, hw => by
    have pf := h.ok (f, e) List.mem_cons_self
    by_cases c : w < f
    · have af : a < f := le_lt hw c
      rw [inS_low (ps := (f, e) :: ps) fun p m => by
        rcases List.mem_cons.mp m with rfl | m
        · exact c
        · exact firsts h (lt_le' c) p m]
      unfold opps inS
      rw [if_pos af, List.any_append]
      simp [inP, hw, c]
    · have fw : f ≤ w := le_of_nlt c
      have e1 : inS (opps a ((f, e) :: ps)) w = inS (past e fun e => opps e ps) w := by
        rw [show opps a ((f, e) :: ps) = (if a < f then [(a, some f)] else []) ++ past e fun e => opps e ps from rfl]
        unfold inS
        rw [List.any_append]
        by_cases q : a < f
        · rw [if_pos q]
          simp [inP, c]
        · rw [if_neg q]
          simp
      rw [e1]
      cases e with
      | none =>
        show false = _
        simp [inS, inP, fw]
      | some e =>
        obtain ⟨s1, s2⟩ := pf.2 e rfl
        have ge : ∀ q ∈ ps, e ≤ q.1 := fun q m => by
          obtain ⟨e', q1, q2⟩ := (List.pairwise_cons.mp h.gap).1 q m
          cases q1
          exact lt_le' q2
        by_cases d : w < e
        · have lo : inS (opps e ps) w = false := inS_low fun p m => lt_le d ((opps_ok ps e h.tail s1 ge).2 p m)
          show inS (opps e ps) w = _
          rw [lo]
          simp [inS, inP, fw, d]
        · show inS (opps e ps) w = _
          rw [opps_in ps e w h.tail s1 ge (le_of_nlt d)]
          simp [inS, inP, fw, d]
theorem opps_len : ∀ (ps : List Pr) (a : Txt), (opps a ps).length ≤ ps.length + 1
  | [], _ => Nat.le_refl _
  | (f, e) :: ps, a => by
    unfold opps
    rw [List.length_append]
    have h1 : (if a < f then [(a, some f)] else [] : List Pr).length ≤ 1 := by split <;> simp
    cases e with
    | none =>
      show _ + 0 ≤ _
      rw [List.length_cons]
      omega
    | some e =>
      have := opps_len ps e
      show _ + (opps e ps).length ≤ _
      rw [List.length_cons]
      omega
theorem le_dec (a b : Txt) : decide (a ≤ b) = !decide (b < a) := by
  by_cases h : b < a
  · rw [decide_eq_true h, decide_eq_false (nlt_of_le · h)]
    rfl
  · rw [decide_eq_false h, decide_eq_true (le_of_nlt h)]
    rfl
/-! ### one normal span for each set of texts -/
theorem le_self (a : Txt) : a ≤ a := le_of_nlt (List.lt_irrefl _)
theorem inP_iff {w : Txt} {p : Pr} : inP w p = true ↔ p.1 ≤ w ∧ ∀ e, p.2 = some e → w < e := by
  obtain ⟨f, e⟩ := p
  unfold inP
  cases e with
  | none => simp
  | some e => simp
theorem inS_cons {p : Pr} {ps : List Pr} {w : Txt} : inS (p :: ps) w = (inP w p || inS ps w) := List.any_cons
theorem inS_app {ps qs : List Pr} {w : Txt} : inS (ps ++ qs) w = (inS ps w || inS qs w) := List.any_append
theorem inS_mem {ps : List Pr} {w : Txt} : inS ps w = true ↔ ∃ p ∈ ps, inP w p = true := by
  unfold inS
  rw [List.any_eq_true]
theorem end_out {p : Pr} {ps : List Pr} (h : SpOk (p :: ps)) {e : Txt} (he : p.2 = some e) : inS (p :: ps) e = false := by
  rw [inS_cons, inS_low (ps := ps) fun q m => by
    obtain ⟨e', e1, e2⟩ := (List.pairwise_cons.mp h.gap).1 q m
    rw [he] at e1
    cases e1
    exact e2]
  rw [Bool.or_false, Bool.eq_false_iff]
  intro c
  exact List.lt_irrefl _ ((inP_iff.mp c).2 e he)
theorem span_uniq : ∀ (as bs : List Pr), SpOk as → SpOk bs → (∀ w, inS as w = inS bs w) → as = bs
  | [], [], _, _, _ => rfl
  | [], q :: qs, _, hb, h => by
    have a := h q.1
    rw [inS_cons, inP_iff.mpr ⟨le_self _, fun e he => ((hb.ok q List.mem_cons_self).2 e he).2⟩] at a
    cases a
  | p :: ps, [], ha, _, h => by
    have a := h p.1
    rw [inS_cons, inP_iff.mpr ⟨le_self _, fun e he => ((ha.ok p List.mem_cons_self).2 e he).2⟩] at a
    cases a
  | p :: ps, q :: qs, ha, hb, h => by
    have pin : inS (p :: ps) p.1 = true := by rw [inS_cons, inP_iff.mpr ⟨le_self _, fun e he => ((ha.ok p List.mem_cons_self).2 e he).2⟩]; rfl
    have qin : inS (q :: qs) q.1 = true := by rw [inS_cons, inP_iff.mpr ⟨le_self _, fun e he => ((hb.ok q List.mem_cons_self).2 e he).2⟩]; rfl
    have low : ∀ {p : Pr} {ps : List Pr} {w : Txt}, SpOk (p :: ps) → w < p.1 → inS (p :: ps) w = false := fun {p ps w} hp l => inS_low fun r m => by
      rcases List.mem_cons.mp m with rfl | m
      · exact l
      · exact firsts hp (lt_le' l) r m
    have f1 : p.1 = q.1 := by
      refine List.le_antisymm (le_of_nlt fun l => ?_) (le_of_nlt fun l => ?_)
      · rw [h, ] at *
        have := low ha l
        rw [h, qin] at this
        cases this
      · have := low hb l
        rw [← h, pin] at this
        cases this
    have f2 : p.2 = q.2 := by
      cases hp : p.2 with
      | none =>
        cases hq : q.2 with
        | none => rfl
        | some d =>
          have a := end_out hb hq
          rw [← h, inS_cons, inP_iff.mpr ⟨by rw [f1]; exact lt_le' ((hb.ok q List.mem_cons_self).2 d hq).2, fun e he => by rw [hp] at he; cases he⟩] at a
          cases a
      | some e =>
        cases hq : q.2 with
        | none =>
          have a := end_out ha hp
          rw [h, inS_cons, inP_iff.mpr ⟨by rw [← f1]; exact lt_le' ((ha.ok p List.mem_cons_self).2 e hp).2, fun d hd => by rw [hq] at hd; cases hd⟩] at a
          cases a
        | some d =>
          congr 1
          refine List.le_antisymm (le_of_nlt fun l => ?_) (le_of_nlt fun l => ?_)
          · have a := end_out hb hq
            rw [← h, inS_cons, inP_iff.mpr ⟨by rw [f1]; exact lt_le' ((hb.ok q List.mem_cons_self).2 d hq).2, fun e' he => by rw [hp] at he; cases he; exact l⟩] at a
            cases a
          · have a := end_out ha hp
            rw [h, inS_cons, inP_iff.mpr ⟨by rw [← f1]; exact lt_le' ((ha.ok p List.mem_cons_self).2 e hp).2, fun d' hd => by rw [hq] at hd; cases hd; exact l⟩] at a
            cases a
    have pq : p = q := Prod.ext f1 f2
    subst pq
    congr 1
    refine span_uniq ps qs ha.tail hb.tail fun w => ?_
    cases hp : p.2 with
    | none =>
      have no : ∀ {ps : List Pr}, SpOk (p :: ps) → ps = [] := fun {ps} hh => by
        cases ps with
        | nil => rfl
        | cons r rs =>
          obtain ⟨e, e1, _⟩ := (List.pairwise_cons.mp hh.gap).1 r List.mem_cons_self
          rw [hp] at e1
          cases e1
      rw [no ha, no hb]
    | some e =>
      have lo : ∀ {ps : List Pr}, SpOk (p :: ps) → w ≤ e → inS ps w = false := fun {ps} hh l => inS_low fun r m => by
        obtain ⟨e', e1, e2⟩ := (List.pairwise_cons.mp hh.gap).1 r m
        rw [hp] at e1
        cases e1
        exact le_lt l e2
      by_cases c : e < w
      · have no : inP w p = false := Bool.eq_false_iff.mpr fun q => List.lt_irrefl _ (List.lt_trans c ((inP_iff.mp q).2 e hp))
        have a := h w
        rw [inS_cons, inS_cons, no] at a
        exact a
      · rw [lo ha (le_of_nlt c), lo hb (le_of_nlt c)]
/-- each range of the normal span begins where one of the ranges does -/
theorem first_of {ds ps : List Pr} (hd : SpOk ds) (h : ∀ w, inS ds w = inS ps w) {d : Pr} (m : d ∈ ds) : ∃ p ∈ ps, p.1 = d.1 := by
  have din : inP d.1 d = true := inP_iff.mpr ⟨le_self _, fun e he => ((hd.ok d m).2 e he).2⟩
  obtain ⟨p, mp, hp⟩ := inS_mem.mp ((h d.1).symm.trans (inS_mem.mpr ⟨d, m, din⟩))
  obtain ⟨p1, p2⟩ := inP_iff.mp hp
  refine ⟨p, mp, List.le_antisymm p1 (le_of_nlt fun lt => ?_)⟩
  have pin : inP p.1 p = true := inP_iff.mpr ⟨le_self _, fun e he => List.lt_trans lt (p2 e he)⟩
  obtain ⟨d', m', hd'⟩ := inS_mem.mp ((h p.1).trans (inS_mem.mpr ⟨p, mp, pin⟩))
  obtain ⟨q1, q2⟩ := inP_iff.mp hd'
  have lt' : d'.1 < d.1 := le_lt q1 lt
  obtain ⟨e, e1, e2⟩ : Gap d' d := by
    obtain ⟨i, hi, ei⟩ := List.mem_iff_getElem.mp m'
    obtain ⟨j, hj, ej⟩ := List.mem_iff_getElem.mp m
    rcases Nat.lt_trichotomy i j with c | c | c
    · have := List.pairwise_iff_getElem.mp hd.gap i j hi hj c
      rwa [ei, ej] at this
    · subst c
      rw [ei] at ej
      subst ej
      exact absurd lt' (List.lt_irrefl _)
    · have := List.pairwise_iff_getElem.mp hd.gap j i hj hi c
      rw [ei, ej] at this
      obtain ⟨e, e1, e2⟩ := this
      exact absurd (List.lt_trans (List.lt_trans ((hd.ok d m).2 e e1).2 e2) lt') (List.lt_irrefl _)
  have ein : inP e p = true := inP_iff.mpr ⟨lt_le' (q2 e e1), fun e' he => List.lt_trans e2 (p2 e' he)⟩
  obtain ⟨c, mc, hc⟩ := inS_mem.mp ((h e).trans (inS_mem.mpr ⟨p, mp, ein⟩))
  obtain ⟨c1, c2⟩ := inP_iff.mp hc
  obtain ⟨i, hi, ei⟩ := List.mem_iff_getElem.mp m'
  obtain ⟨j, hj, ej⟩ := List.mem_iff_getElem.mp mc
  rcases Nat.lt_trichotomy i j with q | q | q
  · have := List.pairwise_iff_getElem.mp hd.gap i j hi hj q
    rw [ei, ej] at this
    obtain ⟨e', f1, f2⟩ := this
    rw [e1] at f1
    cases f1
    exact nlt_of_le c1 f2
  · subst q
    rw [ei] at ej
    subst ej
    exact List.lt_irrefl _ (c2 e e1)
  · have := List.pairwise_iff_getElem.mp hd.gap j i hj hi q
    rw [ei, ej] at this
    obtain ⟨e', f1, f2⟩ := this
    exact List.lt_irrefl _ (List.lt_trans (c2 e' f1) (List.lt_trans f2 (lt_le ((hd.ok d' m').2 e e1).2 (le_self e))))
theorem asc_len : ∀ (xs L : List Txt), xs.Pairwise (· < ·) → (∀ x ∈ xs, x ∈ L) → xs.length ≤ L.length
  | [], _, _, _ => Nat.zero_le _
  | x :: xs, L, pw, h => by
    obtain ⟨p1, p2⟩ := List.pairwise_cons.mp pw
    have mx := h x List.mem_cons_self
    have ih := asc_len xs (L.erase x) p2 fun y m => (List.mem_erase_of_ne fun e => List.lt_irrefl _ (e ▸ p1 y m)).mpr (h y (List.mem_cons_of_mem _ m))
    rw [List.length_erase_of_mem mx] at ih
    have := List.length_pos_of_mem mx
    rw [List.length_cons]
    omega
theorem SpOk.asc {ps : List Pr} (h : SpOk ps) : (ps.map Prod.fst).Pairwise (· < ·) := by
  rw [List.pairwise_map]
  exact h.gap.imp_of_mem fun {p q} mp _ ⟨e, e1, e2⟩ => List.lt_trans ((h.ok p mp).2 e e1).2 e2
theorem norm_len {ds ps : List Pr} (hd : SpOk ds) (h : ∀ w, inS ds w = inS ps w) : ds.length ≤ ps.length := by
  have := asc_len (ds.map Prod.fst) (ps.map Prod.fst) hd.asc fun x m => by
    obtain ⟨d, md, rfl⟩ := List.mem_map.mp m
    obtain ⟨p, mp, e⟩ := first_of hd h md
    exact List.mem_map.mpr ⟨p, mp, e⟩
  rwa [List.length_map, List.length_map] at this
theorem short_nil0 : Short [] := ⟨Abc.nil, Nat.zero_le _⟩
theorem opps_opps {ps : List Pr} (h : SpOk ps) : opps [] (opps [] ps) = ps := by
  have o := opps_ok ps [] h short_nil0 fun p _ => nil_le _
  have oo := opps_ok (opps [] ps) [] o.1 short_nil0 fun p _ => nil_le _
  refine span_uniq _ _ oo.1 h fun w => ?_
  rw [opps_in _ _ _ o.1 short_nil0 (fun p _ => nil_le _) (nil_le _), opps_in _ _ _ h short_nil0 (fun p _ => nil_le _) (nil_le _), Bool.not_not]
/-! ### cells by points -/
def Cel (zs : List Txt) (z w : Txt) : Prop := z ∈ zs ∧ z ≤ w ∧ ∀ x ∈ zs, x ≤ w → x ≤ z
theorem cel_ex (w : Txt) : ∀ (zs : List Txt), (∃ x ∈ zs, x ≤ w) → ∃ z, Cel zs z w
  | [], ⟨x, m, _⟩ => nomatch m
  | y :: zs, h => by
    by_cases g : ∃ x ∈ zs, x ≤ w
    · obtain ⟨z, m, l, a⟩ := cel_ex w zs g
      by_cases c : y ≤ w ∧ z < y
      · refine ⟨y, List.mem_cons_self, c.1, fun x mx lx => ?_⟩
        rcases List.mem_cons.mp mx with rfl | mx
        · exact le_self _
        · exact lt_le' (le_lt (a x mx lx) c.2)
      · refine ⟨z, List.mem_cons_of_mem _ m, l, fun x mx lx => ?_⟩
        rcases List.mem_cons.mp mx with rfl | mx
        · exact le_of_nlt fun q => c ⟨lx, q⟩
        · exact a x mx lx
    · obtain ⟨x, m, l⟩ := h
      rcases List.mem_cons.mp m with rfl | m
      · refine ⟨x, List.mem_cons_self, l, fun u mu lu => ?_⟩
        rcases List.mem_cons.mp mu with rfl | mu
        · exact le_self _
        · exact absurd ⟨u, mu, lu⟩ g
      · exact absurd ⟨x, m, l⟩ g
theorem Cel.same {zs : List Txt} {z w x : Txt} (h : Cel zs z w) (h1 : z ≤ x) (h2 : x ≤ w) : Cel zs z x := ⟨h.1, h1, fun u m l => h.2.2 u m (List.le_trans l h2)⟩
theorem gap_lt {ds : List Pr} (ok : SpOk ds) {c d : Pr} (mc : c ∈ ds) (md : d ∈ ds) (lt : c.1 < d.1) : Gap c d := by
  obtain ⟨i, hi, ei⟩ := List.mem_iff_getElem.mp mc
  obtain ⟨j, hj, ej⟩ := List.mem_iff_getElem.mp md
  rcases Nat.lt_trichotomy i j with q | q | q
  · have := List.pairwise_iff_getElem.mp ok.gap i j hi hj q
    rwa [ei, ej] at this
  · subst q
    rw [ei] at ej
    subst ej
    exact absurd lt (List.lt_irrefl _)
  · have := List.pairwise_iff_getElem.mp ok.gap j i hj hi q
    rw [ei, ej] at this
    obtain ⟨e, e1, e2⟩ := this
    exact absurd (List.lt_trans (List.lt_trans ((ok.ok d md).2 e e1).2 e2) lt) (List.lt_irrefl _)
theorem same_first {ds : List Pr} (ok : SpOk ds) {c d : Pr} (mc : c ∈ ds) (md : d ∈ ds) (e1 : c.1 = d.1) : c = d := by
  obtain ⟨i, hi, ei⟩ := List.mem_iff_getElem.mp mc
  obtain ⟨j, hj, ej⟩ := List.mem_iff_getElem.mp md
  have no : ∀ {p q : Pr}, p ∈ ds → Gap p q → p.1 = q.1 → False := fun {p q} mp ⟨e, g1, g2⟩ h => by
    have := List.lt_trans ((ok.ok p mp).2 e g1).2 g2
    rw [h] at this
    exact List.lt_irrefl _ this
  rcases Nat.lt_trichotomy i j with q | q | q
  · have := List.pairwise_iff_getElem.mp ok.gap i j hi hj q
    rw [ei, ej] at this
    exact (no mc this e1).elim
  · subst q
    rw [ei] at ej
    exact ej
  · have := List.pairwise_iff_getElem.mp ok.gap j i hj hi q
    rw [ei, ej] at this
    exact (no md this e1.symm).elim
theorem end_no {ds : List Pr} (ok : SpOk ds) {d : Pr} (md : d ∈ ds) {e : Txt} (he : d.2 = some e) : inS ds e = false := by
  rw [Bool.eq_false_iff]
  intro h
  obtain ⟨c, mc, hc⟩ := inS_mem.mp h
  obtain ⟨c1, c2⟩ := inP_iff.mp hc
  by_cases l1 : c.1 < d.1
  · obtain ⟨e', f1, f2⟩ := gap_lt ok mc md l1
    exact List.lt_irrefl _ (List.lt_trans (c2 e' f1) (List.lt_trans f2 ((ok.ok d md).2 e he).2))
  · by_cases l2 : d.1 < c.1
    · obtain ⟨e', f1, f2⟩ := gap_lt ok md mc l2
      rw [he] at f1
      cases f1
      exact nlt_of_le c1 f2
    · have := same_first ok mc md (List.le_antisymm (le_of_nlt l2) (le_of_nlt l1))
      subst this
      exact List.lt_irrefl _ (c2 e he)
theorem first_in {ds : List Pr} (ok : SpOk ds) {d : Pr} (md : d ∈ ds) : inP d.1 d = true := inP_iff.mpr ⟨le_self _, fun e he => ((ok.ok d md).2 e he).2⟩
theorem corner_of {ds : List Pr} {zs : List Txt} (ok : SpOk ds) (hc : ∀ z w, Abc w → Cel zs z w → inS ds w = inS ds z) (h0 : [] ∈ zs) : ∀ d ∈ ds, d.1 ∈ zs ∧ ∀ e, d.2 = some e → e ∈ zs := fun d md => by
  have od := ok.ok d md
  have tr : inS ds d.1 = true := inS_mem.mpr ⟨d, md, first_in ok md⟩
  refine ⟨?_, fun e he => ?_⟩
  · obtain ⟨z, cz⟩ := cel_ex d.1 zs ⟨[], h0, nil_le _⟩
    have hz := hc z d.1 od.1.1 cz
    rw [tr] at hz
    by_cases lt : z < d.1
    · obtain ⟨d', md', hd'⟩ := inS_mem.mp hz.symm
      obtain ⟨q1, q2⟩ := inP_iff.mp hd'
      obtain ⟨e', f1, f2⟩ := gap_lt ok md' md (le_lt q1 lt)
      have ce := cz.same (lt_le' (q2 e' f1)) (lt_le' f2)
      have a := hc z e' ((ok.ok d' md').2 e' f1).1.1 ce
      rw [end_no ok md' f1, ← hz] at a
      cases a
    · rw [List.le_antisymm (le_of_nlt lt) cz.2.1]
      exact cz.1
  · obtain ⟨z, cz⟩ := cel_ex e zs ⟨[], h0, nil_le _⟩
    obtain ⟨oe, lte⟩ := od.2 e he
    have hz := hc z e oe.1 cz
    rw [end_no ok md he] at hz
    by_cases lt : z < e
    · by_cases l2 : z < d.1
      · have a := hc z d.1 od.1.1 (cz.same (lt_le' l2) (lt_le' lte))
        rw [tr, ← hz] at a
        cases a
      · have : inS ds z = true := inS_mem.mpr ⟨d, md, inP_iff.mpr ⟨le_of_nlt l2, fun e' he' => by rw [he] at he'; cases he'; exact lt⟩⟩
        rw [this] at hz
        cases hz
    · rw [List.le_antisymm (le_of_nlt lt) cz.2.1]
      exact cz.1
theorem cel_in {ps : List Pr} {zs : List Txt} {z w : Txt} (sub : ∀ p ∈ ps, p.1 ∈ zs ∧ ∀ e, p.2 = some e → e ∈ zs) (h : Cel zs z w) : inS ps w = inS ps z := by
  have one : ∀ p ∈ ps, inP w p = inP z p := fun p m => by
    rw [Bool.eq_iff_iff, inP_iff, inP_iff]
    constructor
    · exact fun g => ⟨h.2.2 _ (sub p m).1 g.1, fun e he => le_lt h.2.1 (g.2 e he)⟩
    · refine fun g => ⟨List.le_trans g.1 h.2.1, fun e he => ?_⟩
      by_cases c : w < e
      · exact c
      · exact absurd (lt_le (g.2 e he) (h.2.2 _ ((sub p m).2 e he) (le_of_nlt c))) (List.lt_irrefl _)
  unfold inS
  rw [Bool.eq_iff_iff, List.any_eq_true, List.any_eq_true]
  constructor
  · rintro ⟨p, m, g⟩
    exact ⟨p, m, by rw [← one p m]; exact g⟩
  · rintro ⟨p, m, g⟩
    exact ⟨p, m, by rw [one p m]; exact g⟩
/-- the corners of some ranges -/
def cns (ps : List Pr) : List Txt := [] :: (ps.map Prod.fst ++ ps.filterMap Prod.snd)
theorem cns_sub {ps : List Pr} : ∀ p ∈ ps, p.1 ∈ cns ps ∧ ∀ e, p.2 = some e → e ∈ cns ps := fun p m =>
  ⟨List.mem_cons_of_mem _ (List.mem_append_left _ (List.mem_map.mpr ⟨p, m, rfl⟩)), fun e he => List.mem_cons_of_mem _ (List.mem_append_right _ (List.mem_filterMap.mpr ⟨p, m, he⟩))⟩
theorem cns_all {ps : List Pr} {P : Txt → Prop} (h0 : P []) (h : ∀ p ∈ ps, P p.1 ∧ ∀ e, p.2 = some e → P e) : ∀ z ∈ cns ps, P z := fun z m => by
  rcases List.mem_cons.mp m with rfl | m
  · exact h0
  · rcases List.mem_append.mp m with m | m
    · obtain ⟨p, mp, rfl⟩ := List.mem_map.mp m
      exact (h p mp).1
    · obtain ⟨p, mp, e⟩ := List.mem_filterMap.mp m
      exact (h p mp).2 z e
def AbcP (ps : List Pr) : Prop := ∀ p ∈ ps, Abc p.1 ∧ ∀ e, p.2 = some e → Abc e
theorem SpOk.abc {ps : List Pr} (h : SpOk ps) : AbcP ps := fun p m => ⟨(h.ok p m).1.1, fun e q => ((h.ok p m).2 e q).1.1⟩
/-- what holds at texts of the letters holds at all -/
theorem all_w {as bs : List Pr} (ha : AbcP as) (hb : AbcP bs) (h : ∀ w, Abc w → inS as w = inS bs w) (w : Txt) : inS as w = inS bs w := by
  obtain ⟨z, cz⟩ := cel_ex w (cns (as ++ bs)) ⟨[], List.mem_cons_self, nil_le _⟩
  have az : Abc z := cns_all (P := Abc) Abc.nil (fun p m => (List.mem_append.mp m).elim (ha p) (hb p)) z cz.1
  rw [cel_in (ps := as) (fun p m => cns_sub p (List.mem_append_left _ m)) cz, cel_in (ps := bs) (fun p m => cns_sub p (List.mem_append_right _ m)) cz, h z az]
theorem span_uniqA {as bs : List Pr} (ha : SpOk as) (hb : SpOk bs) (h : ∀ w, Abc w → inS as w = inS bs w) : as = bs := span_uniq as bs ha hb (all_w ha.abc hb.abc h)
def Lim (m : Nat) (ps : List Pr) : Prop := ∀ p ∈ ps, p.1.length ≤ m ∧ ∀ e, p.2 = some e → e.length ≤ m
theorem lim_of {ds ps : List Pr} {m : Nat} (ok : SpOk ds) (eq : ∀ w, Abc w → inS ds w = inS ps w) (pa : AbcP ps) (l : Lim m ps) : Lim m ds := fun d md => by
  have za : ∀ z ∈ cns ps, Abc z := cns_all (P := Abc) Abc.nil pa
  have zl : ∀ z ∈ cns ps, z.length ≤ m := cns_all (P := fun z => z.length ≤ m) (Nat.zero_le _) l
  obtain ⟨a, b⟩ := corner_of ok (zs := cns ps) (fun z w aw cz => by rw [eq w aw, eq z (za z cz.1), cel_in cns_sub cz]) List.mem_cons_self d md
  exact ⟨zl _ a, fun e he => zl _ (b e he)⟩
theorem opps_lim {m : Nat} {ps : List Pr} (h : Lim m ps) : Lim m (opps [] ps) := by
  have go : ∀ (ps : List Pr) (a : Txt), a.length ≤ m → Lim m ps → Lim m (opps a ps) := fun ps => by
    induction ps with
    | nil =>
      intro a la _ p mp
      rw [List.mem_singleton.mp mp]
      exact ⟨la, fun e q => by cases q⟩
    | cons q ps ih =>
      intro a la hl p mp
      obtain ⟨f, e⟩ := q
      have h0 := hl (f, e) List.mem_cons_self
      rcases List.mem_append.mp (show p ∈ (if a < f then [(a, some f)] else []) ++ past e fun e => opps e ps from mp) with mp | mp
      · split at mp
        · rw [List.mem_singleton.mp mp]
          exact ⟨la, fun e q => by cases q; exact h0.1⟩
        · cases mp
      · cases e with
        | none => cases mp
        | some e => exact ih e (h0.2 e rfl) (fun p m => hl p (List.mem_cons_of_mem _ m)) p mp
  exact go ps [] (Nat.zero_le _) h
abbrev s_is_range : Stmt := topS 9
abbrev N_is_range : List Str := ["value"]
theorem sc_is_range : FnScope ["value"] ["value"] (defScope s_is_range) := ⟨rfl, rfl, rfl, by decide +kernel, rfl, by decide +kernel, by decide +kernel⟩

abbrev s_reaches : Stmt := topS 11
abbrev N_reaches : List Str := ["end", "first"]
theorem sc_reaches : FnScope ["end", "first"] ["end", "first"] (defScope s_reaches) := ⟨rfl, rfl, rfl, by decide +kernel, rfl, by decide +kernel, by decide +kernel⟩

/-! ### ranges as values -/
theorem pg_tupK {X : Cx} {K : PySem.W.Frag} {pos : Pos} {es : List Expr} {k : Nat} {t : TGs} {n : Nat} (hK : X.K = K) (hc : X.calm = true) (h : PGs X es t) (hn : (assignEach es X.env).length = n) (hst : (assignEach es X.env).findIdx? (·.1) = none) : PG X (.Tuple es k pos) (gTup K n t) := by
  subst hK
  exact pg_tup hc h hn hst
theorem ix_tupK {X : Cx} {K : PySem.W.Frag} (hK : X.K = K) : IxR X (rIxT K) := by
  subst hK
  exact ix_tup

def oD : Option Txt → Dt
  | none => .non
  | some l => .str l
def oV : Option Txt → V
  | none => .non
  | some l => Tx l
def prD (p : Pr) : Dt := .tup [.str p.1, oD p.2]
theorem rp_pr {K : PySem.W.Frag} {H : Hp} {v : V} {p : Pr} (r : Rp K H v (prD p)) : ∃ a, v = .ref a ∧ SqT K H a [Tx p.1, oV p.2] := by
  obtain ⟨f, e⟩ := p
  cases r with
  | tup h _ rl =>
    refine ⟨_, rfl, ?_⟩
    cases rl with
    | cons r1 rl =>
      cases rl with
      | cons r2 rl =>
        cases rl
        cases r1
        cases e with
        | none =>
          cases r2
          exact h
        | some e =>
          cases r2
          exact h
theorem pr_rp {K : PySem.W.Frag} {H : Hp} {a : Addr} {p : Pr} (h : SqT K H a [Tx p.1, oV p.2]) (hf : p.1.length ≤ 40) (he : ∀ e, p.2 = some e → e.length ≤ 40) : Rp K H (.ref a) (prD p) := by
  obtain ⟨f, e⟩ := p
  refine .tup h (by simp) (.cons (.str f (by have : f.length ≤ 40 := hf; omega)) (.cons ?_ .nil))
  cases e with
  | none => exact .non
  | some e => exact .str e (by have := he e rfl; omega)
def spIsRange (K : PySem.W.Frag) : Sp := fun vs H Q _ => ∃ (a : Addr) (p : Pr), vs = [.ref a] ∧ SqT K H a [Tx p.1, oV p.2] ∧ PrOk p ∧ Q (.bl true) H
theorem cl_is_range {f : Addr} {fd : FuncData} (D : Df K mg "is_range" s_is_range ["value"] f fd) (T : Nm mg) (c_is_text : Cl P w K mg base 1 "is_text" s_is_text ["value"] (spIsText K)) : Cl P w K mg base 2 "is_range" s_is_range ["value"] (spIsRange K) := by
  refine D.cl sc_is_range (fun vs H Q E h => ?_) (fun cdv A outer s H vs Q E hr h => ?_)
  · obtain ⟨a, p, rfl, _⟩ := h
    rfl
  · obtain ⟨a, ⟨g, e⟩, rfl, hs, ⟨⟨ag, lg⟩, he⟩, k⟩ := h
    refine ⟨_, (pss_cons (ps_if (PW.pt (pw_or (pt_tyNot (T := "tuple") Mono.var (pv 0) T.n_type T.n_tuple (by decide +kernel)) (pw_or (pt_cmpR op_ne (pe_callB call_len_seq (by rfl) T.n_len (by decide +kernel) (pa_cons (pv 0) pa_nil)) pe_int (by first | exact nomark _ | rfl)) (pw_or1 (pt_not (pt_val (pe_cl c_is_text hr (by omega) (pa_cons (pe_ix ix_tup (pv 0) pe_int (fun _ _ => rfl)) pa_nil)))))))) (pss_one (ps_ret pe_bl)) pss_nil)
      (pss_one (ps_ret (pe_or (pe_cmpR op_isN (pe_ix ix_tup (pv 0) pe_int (fun _ _ => rfl)) pe_non (by first | exact nomark _ | rfl)) (pe_one (pe_and (pe_cl c_is_text hr (by omega) (pa_cons (pe_ix ix_tup (pv 0) pe_int (fun _ _ => rfl)) pa_nil)) (pe_one (pe_cmpR op_lt_str (pe_ix ix_tup (pv 0) pe_int (fun _ _ => rfl)) (pe_ix ix_tup (pv 0) pe_int (fun _ _ => rfl)) (by first | exact nomark _ | rfl))))))))), ?_⟩
    have lg : g.length ≤ 40 := lg
    have isT : ∀ (l : Txt) (b : Bool), Abc l → (b = true ↔ IsTx (.str l)) → b = true := fun l b al hb => hb.mpr ⟨l, rfl, al⟩
    refine ⟨_, rfl, .tup [.str g, oD e], pr_rp (p := (g, e)) hs lg (fun e' q => (he e' q).1.2), ?_⟩
    refine ite2 (fun h => absurd h (by simp [Dt.ty])) (fun _ => ?_)
    refine ⟨_, rfl, a, _, rfl, .inr hs, rfl, _, rfl, ite2 (fun h => (by simp at h)) (fun _ => ?_)⟩
    refine ⟨_, rfl, a, _, 0, Tx g, rfl, rfl, hs, at0, Tx g, .str g, rfl, .str g (by omega), fun b hb => ?_⟩
    obtain rfl := isT g b ag hb
    refine ⟨_, rfl, ?_⟩
    refine ⟨_, rfl, a, _, 1, oV e, rfl, rfl, hs, at1, rfl, ?_⟩
    cases e with
    | none => exact ⟨_, rfl, k⟩
    | some e =>
      obtain ⟨⟨ae, le⟩, lt⟩ := he e rfl
      refine ⟨_, rfl, _, rfl, a, _, 1, Tx e, rfl, rfl, hs, at1, Tx e, .str e, rfl, .str e (by omega), fun b hb => ?_⟩
      obtain rfl := isT e b ae hb
      refine ⟨_, rfl, _, rfl, a, _, 0, Tx g, rfl, rfl, hs, at0, _, rfl, a, _, 1, Tx e, rfl, rfl, hs, at1, tx g, tx e, rfl, rfl, ?_⟩
      rw [decide_eq_true (show (tx g).cps.toList < (tx e).cps.toList from lt)]
      exact k
def spReaches : Sp := fun vs H Q _ => ∃ (e f : Txt), vs = [Tx e, Tx f] ∧ e.length ≤ 40 ∧ f.length ≤ 40 ∧ e < f ∧ Q (.bl false) H
theorem cl_reaches {f : Addr} {fd : FuncData} (D : Df K mg "reaches" s_reaches ["end", "first"] f fd) (T : Nm mg) : Cl P w K mg base 1 "reaches" s_reaches ["end", "first"] spReaches := by
  refine D.cl sc_reaches (fun vs H Q E h => ?_) (fun cdv A outer s H vs Q E hr h => ?_)
  · obtain ⟨e, f, rfl, _⟩ := h
    rfl
  · obtain ⟨e, f, rfl, le, lf, lt, k⟩ := h
    refine ⟨_, (pss_one (ps_ret (pe_or (pe_cmpR op_isN (pv 0) pe_non (by first | exact nomark _ | rfl)) (pe_one (pe_cmpR op_ge_str (pv 0) (pv 1) (by first | exact nomark _ | rfl)))))), ?_⟩
    refine ⟨_, rfl, rfl, ?_⟩
    refine ⟨_, rfl, _, rfl, _, rfl, tx e, tx f, rfl, rfl, ?_⟩
    rw [decide_eq_true (show (tx e).cps.toList < (tx f).cps.toList from lt)]
    exact k
/-! ### spans as values -/
structure Spn (K : PySem.W.Frag) (H : Hp) (a : Addr) (ps : List Pr) : Prop where
  ex : ∃ vs, SqT K H a vs ∧ RpL K H vs (ps.map prD)
  ok : SpOk ps
  few : ps.length ≤ 3000
theorem Spn.stp {K : PySem.W.Frag} {H H' : Hp} {S : List Addr} {a : Addr} {ps : List Pr} (h : Spn K H a ps) (s : Stp S H H') (l : Lsts H S) : Spn K H' a ps := by
  obtain ⟨vs, h1, h2⟩ := h.ex
  exact ⟨⟨vs, sqt_stp s l h1, h2.stp s l⟩, h.ok, h.few⟩
theorem prs_get {K : PySem.W.Frag} {H : Hp} {vs : List V} {ps : List Pr} {i : Nat} {v : V} (r : RpL K H vs (ps.map prD)) (h : vs[i]? = some v) : ∃ p, ps[i]? = some p ∧ ∃ a, v = .ref a ∧ SqT K H a [Tx p.1, oV p.2] := by
  obtain ⟨d, e, rd⟩ := r.get h
  rw [List.getElem?_map] at e
  cases q : ps[i]? with
  | none =>
    rw [q] at e
    cases e
  | some p =>
    rw [q] at e
    cases e
    exact ⟨p, rfl, rp_pr rd⟩
theorem short_nil : Short [] := ⟨Abc.nil, Nat.zero_le _⟩
theorem prs_one {K : PySem.W.Frag} {H : Hp} {vs : List V} {ds : List Pr} {v : V} {p : Pr} (r : RpL K H vs (ds.map prD)) (h : Rp K H v (prD p)) : RpL K H (vs ++ [v]) ((ds ++ [p]).map prD) := by
  rw [List.map_append]
  exact r.app (.cons h .nil)
abbrev s_is_span : Stmt := topS 10
abbrev N_is_span : List Str := ["value", "part", "ahead"]
theorem sc_is_span : FnScope ["value", "part", "ahead"] ["value"] (defScope s_is_span) := ⟨rfl, rfl, rfl, by decide +kernel, rfl, by decide +kernel, by decide +kernel⟩

abbrev s_check_span : Stmt := topS 13
abbrev N_check_span : List Str := ["span"]
theorem sc_check_span : FnScope ["span"] ["span"] (defScope s_check_span) := ⟨rfl, rfl, rfl, by decide +kernel, rfl, by decide +kernel, by decide +kernel⟩

theorem lc_zipT {K : PySem.W.Frag} {a b : Addr} {xs ys : List V} {g : TG} {tt : TT} {te : TE} {vs : List Nat} {σ : L2.St} {H1 : Hp} {D : Addr} {Qd : Hp → Prop} (Pv : Nat → Hp → Prop) (h0 : Pv 0 (upd H1 D (.lst []))) (hl : ∀ i H, Pv i H → SqT K H a xs ∧ SqT K H b ys) (le : ys.length ≤ xs.length)
    (hs : ∀ i x y T H, xs[i]? = some x → ys[i]? = some y → Pv i H → H T = none → g (.ref T) (wipe σ vs) (upd H T (.tup [x, y])) fun σ2 H2 => wipe σ2 vs = wipe σ vs ∧ tt σ2 H2 fun b H3 =>
      if b = true then te σ2 H3 fun y H4 => ∃ acc, H4 D = some (.lst acc) ∧ acc.length < sizeLine ∧ Pv (i + 1) (upd H4 D (.lst (acc ++ [y]))) else Pv (i + 1) H3) (hd : ∀ H, Pv ys.length H → Qd H) :
    ∃ W : Nat → Nat → Hp → Prop, (∃ m, W 0 m (upd H1 D (.lst []))) ∧ ∀ i m H, W i m H →
      ((RZ.ItzT K a b).stop i H ∧ Qd H) ∨ ((RZ.ItzT K a b).go i H ∧ ∃ Nx : Hp → Prop, (∀ H', Nx H' → ∃ m', m' < m ∧ W (i + 1) m' H') ∧ ∀ x H', (RZ.ItzT K a b).yld i H x H' → g x (wipe σ vs) H' fun σ2 H2 => wipe σ2 vs = wipe σ vs ∧ tt σ2 H2 fun b H3 =>
        if b = true then te σ2 H3 fun y H4 => ∃ acc, H4 D = some (.lst acc) ∧ acc.length < sizeLine ∧ Nx (upd H4 D (.lst (acc ++ [y]))) else Nx H3) := by
  refine ⟨fun i m H => m = ys.length - i ∧ i ≤ ys.length ∧ Pv i H, ⟨ys.length, by simp, Nat.zero_le _, h0⟩, ?_⟩
  rintro i m H ⟨rfl, hi, p⟩
  obtain ⟨qa, qb⟩ := hl i H p
  by_cases hlt : i < ys.length
  · refine .inr ⟨⟨xs, ys, xs[i], ys[i], qa, qb, by simp, by simp⟩, Pv (i + 1), fun H' p' => ⟨ys.length - (i + 1), by omega, rfl, hlt, p'⟩, fun v H' yy => ?_⟩
    obtain ⟨T, x, y, rfl, nT, rfl, hx, hy⟩ := yy
    exact hs i x y T H (hx xs qa) (hy ys qb) p nT
  · have e : i = ys.length := by omega
    subst e
    exact .inl ⟨⟨xs, ys, qa, qb, .inr (Nat.le_refl _)⟩, hd H p⟩
def spIsSpan (K : PySem.W.Frag) : Sp := fun vs H Q _ => ∃ (a : Addr) (ps : List Pr), vs = [.ref a] ∧ Spn K H a ps ∧ ∀ H', Stp [] H H' → Q (.bl true) H'
theorem all_true {bs : List Bool} (h : ∀ b ∈ bs, b = true) : bs.all id = true := by
  rw [List.all_eq_true]
  exact h
theorem cl_is_span {f : Addr} {fd : FuncData} (D : Df K mg "is_span" s_is_span ["value"] f fd) (T : Nm mg) (c_is_range : Cl P w K mg base 2 "is_range" s_is_range ["value"] (spIsRange K)) (c_reaches : Cl P w K mg base 1 "reaches" s_reaches ["end", "first"] spReaches) :
    Cl P w K mg base 3 "is_span" s_is_span ["value"] (spIsSpan K) := by
  refine D.cl sc_is_span (fun vs H Q E h => ?_) (fun cdv A outer s H vs Q E hr h => ?_)
  · obtain ⟨a, ps, rfl, _⟩ := h
    rfl
  · obtain ⟨a, ps, rfl, ⟨⟨xs, hs, rl⟩, ok, few⟩, k⟩ := h
    have lx : xs.length = ps.length := by rw [rl.len, List.length_map]
    refine ⟨_, (pss_cons (ps_if (PW.pt (pw_or (pt_tyNot (T := "tuple") Mono.var (pv 0) T.n_type T.n_tuple (by decide +kernel)) (pw_or1 (pt_not (pt_val (pe_callB (cr_all rfl) (by rfl) T.n_all (by decide +kernel) (pa_cons (pe_lc (own := [("part", 1)]) rfl sc_is_span.nd (pi_tup (pv 0)) (blkOk_by (own := [("part", 1)]) (N := N_is_span) (sc := defScope s_is_span) (by decide +kernel)) (fun _ _ _ _ _ => (pg_name (i := 1) sc_is_span.nd rfl (by first | exact Or.inl rfl | exact Or.inr rfl))) (fun _ _ _ _ _ => pts_nil) (fun _ _ _ _ _ => (pe_cl c_is_range hr (by omega) (pa_cons (pv 1) pa_nil)))) pa_nil))))))) (pss_one (ps_ret pe_bl)) pss_nil)
      (pss_one (ps_ret (pe_callB (cr_all rfl) (by rfl) T.n_all (by decide +kernel) (pa_cons (pe_lc (own := [("ahead", 2), ("part", 1)]) rfl sc_is_span.nd (RZ.pi_zipA (by rfl) T.n_zip (pa_cons (pv 0) (pa_cons (pe_slice sl_tupA (pv 0) (po_some pe_int) po_none) pa_nil))) (blkOk_by (own := [("ahead", 2), ("part", 1)]) (N := N_is_span) (sc := defScope s_is_span) (by decide +kernel)) (fun _ _ _ _ _ => (pg_tupK (n := 2) rfl rfl (pgs_cons (pg_name (i := 2) sc_is_span.nd rfl (by first | exact Or.inl rfl | exact Or.inr rfl)) (pgs_cons (pg_name (i := 1) sc_is_span.nd rfl (by first | exact Or.inl rfl | exact Or.inr rfl)) pgs_nil (by rfl)) (by rfl)) (by rfl) (by rfl))) (fun _ _ _ _ _ => pts_nil) (fun _ _ _ _ _ => (pe_not (pe_cl c_reaches hr (by omega) (pa_cons (pe_ix (ix_tupK rfl) (pv 2) pe_int (fun _ _ => rfl)) (pa_cons (pe_ix (ix_tupK rfl) (pv 1) pe_int (fun _ _ => rfl)) pa_nil)))))) pa_nil))))), ?_⟩
    refine ⟨_, rfl, .tup (ps.map prD), .tup hs (by omega) rl, ?_⟩
    refine ite2 (fun h => absurd h (by simp [Dt.ty])) (fun _ => ?_)
    refine ⟨_, rfl, a, rfl, ⟨_, hs⟩, fun L nL => ?_⟩
    refine lc_tup (a := a) (xs := xs) (fun i H2 => ∃ bs : List Bool, bs.length = i ∧ H2 L = some (.lst (bs.map V.bl)) ∧ Stp [] H H2 ∧ ∀ b ∈ bs, b = true)
      ⟨[], rfl, upd_same, Stp.new nL _, fun b m => nomatch m⟩ (fun i H2 _ ⟨bs, _, _, S, _⟩ => sqt_stp S Lsts.nil hs) ?_ ?_
    · rintro i x H2 hi ⟨bs, hl, hL, S, hb⟩
      obtain ⟨p, hp, t, rfl, ht⟩ := prs_get rl hi
      refine ⟨rfl, _, rfl, t, p, rfl, sqt_stp S Lsts.nil ht, ok.ok p (List.mem_of_getElem? hp), bs.map V.bl, hL, ?_, bs ++ [true], by simp [hl], ?_, S.mut nL, fun b m => ?_⟩
      · have h1 := (List.getElem?_eq_some_iff.mp hi).1
        rw [List.length_map, hl]
        exact Nat.lt_of_lt_of_le (show i < 100000 by omega) (by decide)
      · rw [List.map_append]
        exact upd_same
      · rcases List.mem_append.mp m with m | m
        · exact hb b m
        · exact List.mem_singleton.mp m
    · rintro H2 ⟨bs, hl, hL, S, hb⟩
      refine ⟨L, bs, rfl, SqL.of hL, ?_⟩
      rw [all_true hb]
      refine ⟨_, rfl, _, rfl, _, rfl, 1, rfl, ?_⟩
      dsimp only
      refine nopart (slA_use (sqt_stp S Lsts.nil hs) fun p H3 S3 hp => ?_)
      have SS := S.trans S3
      have e1 : cutV xs (some (1 : Int)) none = xs.drop 1 := cut_from 1
      rw [e1] at hp
      refine ⟨a, p, xs, _, rfl, .inr ⟨sqt_stp SS Lsts.nil hs, hp, fun L2 nL2 => ?_⟩⟩
      refine lc_zipT (a := a) (b := p) (xs := xs) (ys := xs.drop 1) (fun i H4 => ∃ bs : List Bool, bs.length = i ∧ H4 L2 = some (.lst (bs.map V.bl)) ∧ Stp [] H3 H4 ∧ ∀ b ∈ bs, b = true)
        ⟨[], rfl, upd_same, Stp.new nL2 _, fun b m => nomatch m⟩ (fun i H4 ⟨bs, _, _, S4, _⟩ => ⟨sqt_stp (SS.trans S4) Lsts.nil hs, sqt_stp S4 Lsts.nil hp⟩) (by rw [List.length_drop]; omega) ?_ ?_
      · rintro i x y t H4 hx hy ⟨bs, hl, hL, S4, hb⟩ nt
        rw [List.getElem?_drop, Nat.add_comm] at hy
        obtain ⟨q1, hq1, t1, rfl, ht1⟩ := prs_get rl hx
        obtain ⟨q2, hq2, t2, rfl, ht2⟩ := prs_get rl hy
        obtain ⟨e, ee, lt⟩ : Gap q1 q2 := by
          obtain ⟨i1, g1⟩ := List.getElem?_eq_some_iff.mp hq1
          obtain ⟨i2, g2⟩ := List.getElem?_eq_some_iff.mp hq2
          have := List.pairwise_iff_getElem.mp ok.gap i (i + 1) i1 i2 (by omega)
          rwa [g1, g2] at this
        have S5 : Stp [] H (upd H4 t (.tup [.ref t1, .ref t2])) := SS.trans (S4.new' nt)
        have o1 := ok.ok q1 (List.mem_of_getElem? hq1)
        have o2 := ok.ok q2 (List.mem_of_getElem? hq2)
        have oe : oV q1.2 = Tx e := by rw [ee]; rfl
        refine ⟨t, _, rfl, SqT.of upd_same, rfl, _, _, rfl, _, _, rfl, rfl, ?_⟩
        have h1 : SqT K (upd H4 t (.tup [.ref t1, .ref t2])) t1 [Tx q1.1, Tx e] := by
          rw [← oe]
          exact sqt_stp S5 Lsts.nil ht1
        have nL2t : L2 ≠ t := ne_of_none hL nt
        have hL5 : (upd H4 t (.tup [.ref t1, .ref t2])) L2 = some (.lst (bs.map V.bl)) := by
          rw [upd_ne nL2t]
          exact hL
        refine ⟨rfl, _, rfl, t1, _, 1, Tx e, rfl, rfl, h1, at1, _, rfl, t2, _, 0, Tx q2.1, rfl, rfl, sqt_stp S5 Lsts.nil ht2, at0, e, q2.1, rfl, (o1.2 e ee).1.2, o2.1.2, lt, _, rfl, bs.map V.bl, hL5, ?_, bs ++ [true], by simp [hl], ?_, (S4.new' nt).mut nL2, fun b m => ?_⟩
        · have h1 := (List.getElem?_eq_some_iff.mp hx).1
          rw [List.length_map, hl]
          exact Nat.lt_of_lt_of_le (show i < 100000 by omega) (by decide)
        · rw [List.map_append]
          exact upd_same
        · rcases List.mem_append.mp m with m | m
          · exact hb b m
          · exact List.mem_singleton.mp m
      · rintro H4 ⟨bs, hl, hL, S4, hb⟩
        refine ⟨L2, bs, rfl, SqL.of hL, ?_⟩
        rw [all_true hb]
        exact k _ (SS.trans S4)

def spCkSpan (K : PySem.W.Frag) : Sp := fun vs H Q _ => ∃ (a : Addr) (ps : List Pr), vs = [.ref a] ∧ Spn K H a ps ∧ ∀ H', Stp [] H H' → Q .non H'
theorem cl_check_span {f : Addr} {fd : FuncData} (D : Df K mg "check_span" s_check_span ["span"] f fd) (T : Nm mg) (c_is_span : Cl P w K mg base 3 "is_span" s_is_span ["value"] (spIsSpan K)) : Cl P w K mg base 4 "check_span" s_check_span ["span"] (spCkSpan K) := by
  refine D.cl sc_check_span (fun vs H Q E h => ?_) (fun cdv A outer s H vs Q E hr h => ?_)
  · obtain ⟨a, ps, rfl, _⟩ := h
    rfl
  · obtain ⟨a, ps, rfl, S, k⟩ := h
    refine ⟨_, (pss_one (ps_if (pt_not (pt_val (pe_cl c_is_span hr (by omega) (pa_cons (pv 0) pa_nil)))) (pss_one ps_never) pss_nil)), ?_⟩
    exact ⟨_, rfl, a, ps, rfl, S, fun H' S' => ⟨_, rfl, k H' S'⟩⟩
abbrev s_opposite : Stmt := topS 20
abbrev N_opposite : List Str := ["span", "gaps", "start", "first", "end"]
theorem sc_opposite : FnScope ["span", "gaps", "start", "first", "end"] ["span"] (defScope s_opposite) := ⟨rfl, rfl, rfl, by decide +kernel, rfl, by decide +kernel, by decide +kernel⟩

/-- the end of the range before -/
def endAt (ps : List Pr) : Nat → Option Txt
  | 0 => some []
  | i + 1 => (ps[i]?).bind Prod.snd
theorem end_at {ps : List Pr} (h : SpOk ps) {i : Nat} {p : Pr} (hp : ps[i]? = some p) : ∃ st, endAt ps i = some st ∧ Short st ∧ st ≤ p.1 := by
  cases i with
  | zero => exact ⟨[], rfl, short_nil, nil_le _⟩
  | succ i =>
    obtain ⟨i2, g2⟩ := List.getElem?_eq_some_iff.mp hp
    have i1 : i < ps.length := by omega
    have g := List.pairwise_iff_getElem.mp h.gap i (i + 1) i1 i2 (by omega)
    rw [g2] at g
    obtain ⟨e, e1, e2⟩ := g
    refine ⟨e, ?_, ((h.ok _ (List.getElem_mem i1)).2 e e1).1, lt_le' e2⟩
    show (ps[i]?).bind Prod.snd = _
    rw [List.getElem?_eq_getElem i1]
    exact e1
theorem end_fin {ps : List Pr} (h : SpOk ps) {st : Txt} (e : endAt ps ps.length = some st) : Short st := by
  cases hl : ps.length with
  | zero =>
    rw [hl] at e
    cases e
    exact short_nil
  | succ n =>
    rw [hl] at e
    have i1 : n < ps.length := by omega
    have e' : (ps[n]?).bind Prod.snd = some st := e
    rw [List.getElem?_eq_getElem i1] at e'
    exact ((h.ok _ (List.getElem_mem i1)).2 st e').1
def todo (ps : List Pr) (i : Nat) : List Pr := past (endAt ps i) fun st => opps st (ps.drop i)
theorem todo_step {ps : List Pr} {i : Nat} {p : Pr} {st : Txt} (hp : ps[i]? = some p) (e : endAt ps i = some st) : todo ps i = (if st < p.1 then [(st, some p.1)] else []) ++ todo ps (i + 1) := by
  obtain ⟨i2, g2⟩ := List.getElem?_eq_some_iff.mp hp
  unfold todo
  rw [e, List.drop_eq_getElem_cons i2, g2]
  have e2 : endAt ps (i + 1) = p.2 := by
    show (ps[i]?).bind Prod.snd = _
    rw [hp]
    rfl
  rw [e2]
  rfl
theorem todo_end {ps : List Pr} : todo ps ps.length = past (endAt ps ps.length) fun st => [(st, none)] := by
  unfold todo
  rw [List.drop_length]
  rfl
theorem todo_all {ps : List Pr} : todo ps 0 = opps [] ps := rfl
theorem at2 {α : Type} {xs : List α} {y : α} : (xs ++ [y]) = xs ++ [y] := rfl
def spOpp (K : PySem.W.Frag) : Sp := fun vs H Q _ => ∃ (a : Addr) (ps : List Pr), vs = [.ref a] ∧ Spn K H a ps ∧ ps.length ≤ 2900 ∧ ∀ b H', Stp [] H H' → Spn K H' b (opps [] ps) → Q (.ref b) H'
theorem cl_opposite {f : Addr} {fd : FuncData} (D : Df K mg "opposite" s_opposite ["span"] f fd) (T : Nm mg) (c_check_span : Cl P w K mg base 4 "check_span" s_check_span ["span"] (spCkSpan K)) :
    Cl P w K mg base 5 "opposite" s_opposite ["span"] (spOpp K) := by
  refine D.cl sc_opposite (fun vs H Q E h => ?_) (fun cdv A outer s H vs Q E hr h => ?_)
  · obtain ⟨a, ps, rfl, _⟩ := h
    rfl
  · obtain ⟨a, ps, rfl, sp, few9, k⟩ := h
    refine ⟨_, (pss_cons (ps_expr (pe_cl c_check_span hr (by omega) (pa_cons (pv 0) pa_nil)))
      (pss_cons (ps_set (i := 1) sc_opposite.nd rfl (by first | exact Or.inl rfl | exact Or.inr rfl) (pe_lst pa_nil))
      (pss_cons (ps_set (i := 2) sc_opposite.nd rfl (by first | exact Or.inl rfl | exact Or.inr rfl) pe_str)
      (pss_cons (ps_for PassesOwn.never rfl (pi_tup (pv 0)) (pg_tup rfl (pgs_cons (pg_name (i := 3) sc_opposite.nd rfl (by first | exact Or.inl rfl | exact Or.inr rfl)) (pgs_cons (pg_name (i := 4) sc_opposite.nd rfl (by first | exact Or.inl rfl | exact Or.inr rfl)) pgs_nil (by rfl)) (by rfl)) (by rfl) (by rfl)) (pss_cons (ps_if (pt_cmpR op_lt_str (pv 2) (pv 3) (by first | exact nomark _ | rfl)) (pss_one (ps_expr (pe_bm PySem.F.plainAttrs_list PySem.F.slot_list_append PySem.F.type_list_append mt_append (pv 1) (pa_cons (pe_tup (pa_cons (pv 2) (pa_cons (pv 3) pa_nil))) pa_nil)))) pss_nil)
      (pss_one (ps_set (i := 2) sc_opposite.nd rfl (by first | exact Or.inl rfl | exact Or.inr rfl) (pv 4)))))
      (pss_cons (ps_if (pt_cmpR op_notN (pv 2) pe_non (by first | exact nomark _ | rfl)) (pss_one (ps_expr (pe_bm PySem.F.plainAttrs_list PySem.F.slot_list_append PySem.F.type_list_append mt_append (pv 1) (pa_cons (pe_tup (pa_cons (pv 2) (pa_cons pe_non pa_nil))) pa_nil)))) pss_nil)
      (pss_one (ps_ret (pe_callTy call_tuple_of (by rfl) T.n_tuple (by decide +kernel) (pa_cons (pv 1) pa_nil))))))))), ?_⟩
    refine ⟨_, rfl, a, ps, rfl, sp, fun H1 S1 => ?_⟩
    refine ⟨Nat.zero_le _, fun G nG => ?_⟩
    obtain ⟨⟨xs, hs, rl⟩, ok, few⟩ := sp.stp S1 Lsts.nil
    have lx : xs.length = ps.length := by rw [rl.len, List.length_map]
    have S0 : Stp [] H1 (upd H1 G (.lst [])) := Stp.new nG _
    have ol := opps_len ps []
    refine ⟨_, rfl, a, rfl, ⟨_, sqt_stp S0 Lsts.nil hs⟩, for_tup (a := a) (xs := xs) (fun i σ H2 => ∃ (done : List Pr) (vs : List V) (x3 x4 : Option V), σ = [some (.ref a), some (.ref G), some (oV (endAt ps i)), x3, x4] ∧ H2 G = some (.lst vs) ∧ RpL K H2 vs (done.map prD) ∧ done ++ todo ps i = opps [] ps ∧ Stp [] H1 H2)
      ⟨[], [], _, _, rfl, upd_same, .nil, rfl, S0⟩ (fun i σ H2 _ ⟨_, _, _, _, _, _, _, _, S⟩ => sqt_stp S Lsts.nil hs) ?_ ?_⟩
    · rintro i x σ H2 hi ⟨done, vs, x3, x4, rfl, hG, rd, all, S⟩
      obtain ⟨p, hp, t, rfl, ht⟩ := prs_get rl hi
      obtain ⟨g, e⟩ := p
      obtain ⟨st, est, sst, le⟩ := end_at ok hp
      have o1 := ok.ok _ (List.mem_of_getElem? hp)
      rw [est]
      have lv : vs.length < sizeLine := by
        have := congrArg List.length all
        rw [List.length_append] at this
        rw [rd.len, List.length_map]
        exact Nat.lt_of_le_of_lt (show done.length ≤ 3000 by omega) (by decide)
      have en : endAt ps (i + 1) = e := by
        show (ps[i]?).bind Prod.snd = _
        rw [hp]
        rfl
      refine ⟨t, _, rfl, sqt_stp S Lsts.nil ht, rfl, _, _, rfl, _, _, rfl, rfl, ?_⟩
      refine ⟨_, rfl, _, rfl, tx st, tx g, rfl, rfl, ?_⟩
      dsimp only
      have len2 : (2 : Nat) ≤ sizeLine := by decide
      have pg : Lsts H2 [G] := .one hG
      refine ⟨_, rfl, ite2 (fun h => ?_) (fun h => ?_)⟩
      · have lt : st < g := of_decide_eq_true h
        refine ⟨_, rfl, .inl ⟨rfl, _, SqL.of hG⟩, _, rfl, _, rfl, len2, fun t2 nt2 => ?_⟩
        have nG2 : G ≠ t2 := ne_of_none hG nt2
        have hG3 : (upd H2 t2 (.tup [Tx st, Tx g])) G = some (.lst vs) := by
          rw [upd_ne nG2]
          exact hG
        refine ⟨G, _, _, rfl, rfl, hG3, lv, ?_⟩
        refine ⟨_, rfl, done ++ [(st, some g)], vs ++ [.ref t2], _, _, by rw [en]; rfl, upd_same, ?_, ?_, (S.new' nt2).mut nG⟩
        · have s3 : Stp [] H2 (upd H2 t2 (.tup [Tx st, Tx g])) := Stp.new nt2 _
          have s4 : Stp [G] (upd H2 t2 (.tup [Tx st, Tx g])) (upd (upd H2 t2 (.tup [Tx st, Tx g])) G (.lst (vs ++ [.ref t2]))) := Stp.put (by simp)
          refine prs_one ((rd.stp s3 Lsts.nil).stp s4 (.one hG3)) (pr_rp (p := (st, some g)) (SqT.of ?_) sst.2 fun e q => by cases q; exact o1.1.2)
          rw [upd_ne nG2.symm]
          exact upd_same
        · rw [← all, todo_step hp est, if_pos lt, List.append_assoc]
      · have nlt : ¬ st < g := fun q => h (decide_eq_true q)
        refine ⟨_, rfl, done, vs, _, _, by rw [en]; rfl, hG, rd, ?_, S⟩
        rw [← all, todo_step hp est, if_neg nlt]
        rfl
    · rintro σ H2 ⟨done, vs, x3, x4, rfl, hG, rd, all, S⟩
      rw [lx] at all ⊢
      rw [todo_end] at all
      have len2 : (2 : Nat) ≤ sizeLine := by decide
      have ord := opps_ok ps [] ok short_nil fun p _ => nil_le _
      refine ⟨_, rfl, rfl, _, rfl, ?_⟩
      have lv : vs.length ≤ 3000 := by
        have := congrArg List.length all
        rw [List.length_append] at this
        rw [rd.len, List.length_map]
        omega
      cases en : endAt ps ps.length with
      | none =>
        rw [en] at all
        have all' : done = opps [] ps := by simpa [past] using all
        refine ite2 (fun h => absurd h (by simp [oV])) (fun _ => ?_)
        refine ⟨_, rfl, G, _, rfl, .inl ⟨SqL.of hG, fun b nb => ?_⟩⟩
        refine k b _ (S1.trans (S.new' nb)) ⟨⟨vs, SqT.of upd_same, ?_⟩, ord.1, by omega⟩
        rw [← all']
        exact rd.stp (Stp.new nb _) Lsts.nil
      | some st =>
        rw [en] at all
        have all' : done ++ [(st, none)] = opps [] ps := all
        have sst := end_fin ok en
        refine ite2 (fun _ => ?_) (fun h => absurd (show _ = true from rfl) h)
        refine ⟨_, rfl, .inl ⟨rfl, _, SqL.of hG⟩, _, rfl, len2, fun t2 nt2 => ?_⟩
        have nG2 : G ≠ t2 := ne_of_none hG nt2
        have hG3 : (upd H2 t2 (.tup [Tx st, .non])) G = some (.lst vs) := by
          rw [upd_ne nG2]
          exact hG
        refine ⟨G, _, _, rfl, rfl, hG3, Nat.lt_of_le_of_lt lv (by decide), ?_⟩
        refine ⟨_, rfl, G, _, rfl, .inl ⟨SqL.of upd_same, fun b nb => ?_⟩⟩
        have s3 : Stp [] H2 (upd H2 t2 (.tup [Tx st, .non])) := Stp.new nt2 _
        have s4 : Stp [G] (upd H2 t2 (.tup [Tx st, .non])) (upd (upd H2 t2 (.tup [Tx st, .non])) G (.lst (vs ++ [.ref t2]))) := Stp.put (by simp)
        refine k b _ (S1.trans (((S.new' nt2).mut nG).new' nb)) ⟨⟨_, SqT.of upd_same, ?_⟩, ord.1, by omega⟩
        rw [← all']
        refine RpL.stp (Stp.new nb _) Lsts.nil (prs_one ((rd.stp s3 Lsts.nil).stp s4 (.one hG3)) (pr_rp (p := (st, none)) (SqT.of ?_) sst.2 fun e q => by cases q))
        rw [upd_ne nG2.symm]
        exact upd_same
abbrev s_check_filter : Stmt := topS 28
abbrev N_check_filter : List Str := ["query"]
theorem sc_check_filter : FnScope ["query"] ["query"] (defScope s_check_filter) := ⟨rfl, rfl, rfl, by decide +kernel, rfl, by decide +kernel, by decide +kernel⟩

abbrev s_yes_or_no : Stmt := topS 30
abbrev N_yes_or_no : List Str := ["holds"]
theorem sc_yes_or_no : FnScope ["holds"] ["holds"] (defScope s_yes_or_no) := ⟨rfl, rfl, rfl, by decide +kernel, rfl, by decide +kernel, by decide +kernel⟩

abbrev s_settled : Stmt := topS 31
abbrev N_settled : List Str := ["answers", "deciding", "otherwise"]
theorem sc_settled : FnScope ["answers", "deciding", "otherwise"] ["answers", "deciding", "otherwise"] (defScope s_settled) := ⟨rfl, rfl, rfl, by decide +kernel, rfl, by decide +kernel, by decide +kernel⟩

abbrev s_matches : Stmt := topS 32
abbrev N_matches : List Str := ["word", "wanted", "text"]
theorem sc_matches : FnScope ["word", "wanted", "text"] ["word", "wanted", "text"] (defScope s_matches) := ⟨rfl, rfl, rfl, by decide +kernel, rfl, by decide +kernel, by decide +kernel⟩

/-! ### values, checks -/
abbrev Vl := Option (List Nat)
/-- a value of the document, short enough -/
def OkV (t : Vl) : Prop := ∀ l, t = some l → Abc l ∧ l.length ≤ 100
def spCkF (K : PySem.W.Frag) (n : Nat) : Sp := fun vs H Q _ => ∃ v d, vs = [v] ∧ Rp K H v d ∧ d.dep < n ∧ Flt d ∧ ∀ H', Stp [] H H' → Q .non H'
theorem cl_check_filter {f : Addr} {fd : FuncData} {n m : Nat} (D : Df K mg "check_filter" s_check_filter ["query"] f fd) (T : Nm mg) (c_is_filter : Cl P w K mg base m "is_filter" s_is_filter ["value"] (spIsF K n)) : Cl P w K mg base (m + 1) "check_filter" s_check_filter ["query"] (spCkF K n) := by
  refine D.cl sc_check_filter (fun vs H Q E h => ?_) (fun cdv A outer s H vs Q E hr h => ?_)
  · obtain ⟨v, d, rfl, _⟩ := h
    rfl
  · obtain ⟨v, d, rfl, r, dp, fl, k⟩ := h
    refine ⟨_, (pss_one (ps_if (pt_not (pt_val (pe_cl c_is_filter hr (by omega) (pa_cons (pv 0) pa_nil)))) (pss_one ps_never) pss_nil)), ?_⟩
    refine ⟨_, rfl, v, d, rfl, r, dp, fun b H1 hb S1 => ?_⟩
    rw [hb.mpr fl]
    exact ⟨_, rfl, ite2 (fun h => absurd h (by decide)) (fun _ => k H1 S1)⟩
def spYes : Sp := fun vs H Q _ => ∃ b : Bool, vs = [.bl b] ∧ Q (.str (if b then "yes" else "no")) H
theorem cl_yes_or_no {f : Addr} {fd : FuncData} (D : Df K mg "yes_or_no" s_yes_or_no ["holds"] f fd) (T : Nm mg) : Cl P w K mg base 1 "yes_or_no" s_yes_or_no ["holds"] spYes := by
  refine D.cl sc_yes_or_no (fun vs H Q E h => ?_) (fun cdv A outer s H vs Q E hr h => ?_)
  · obtain ⟨b, rfl, _⟩ := h
    rfl
  · obtain ⟨b, rfl, k⟩ := h
    refine ⟨_, (pss_one (ps_ret (pe_ifExp (pt_val (pv 0)) pe_str pe_str))), ?_⟩
    cases b <;> exact ⟨_, rfl, _, rfl, k⟩
def spSet (K : PySem.W.Frag) : Sp := fun vs H Q _ => ∃ (a : Addr) (ws : List Str) (x y : Str), vs = [.ref a, .str x, .str y] ∧ SqL K H a (ws.map V.str) ∧ Q (.str (if x ∈ ws then x else if ("open" : Str) ∈ ws then "open" else y)) H
theorem cl_settled {f : Addr} {fd : FuncData} (D : Df K mg "settled" s_settled ["answers", "deciding", "otherwise"] f fd) (T : Nm mg) : Cl P w K mg base 1 "settled" s_settled ["answers", "deciding", "otherwise"] (spSet K) := by
  refine D.cl sc_settled (fun vs H Q E h => ?_) (fun cdv A outer s H vs Q E hr h => ?_)
  · obtain ⟨a, ws, x, y, rfl, _⟩ := h
    rfl
  · obtain ⟨a, ws, x, y, rfl, hs, k⟩ := h
    refine ⟨_, (pss_cons (ps_if (pt_cmpR op_in_seq (pv 1) (pv 0) (by first | exact nomark _ | rfl)) (pss_one (ps_ret (pv 1))) pss_nil)
      (pss_one (ps_ret (pe_ifExp (pt_cmpR op_in_seq pe_str (pv 0) (by first | exact nomark _ | rfl)) pe_str (pv 2))))), ?_⟩
    have fl : ∀ ws : List Str, (ws.map V.str).all flatV = true := fun ws => by simp [flatV]
    refine ⟨_, rfl, _, rfl, a, _, rfl, .inl hs, rfl, fl ws, _, rfl, ?_⟩
    rw [inV_str]
    refine ite2 (fun h => ?_) (fun h => ?_)
    · rw [if_pos (of_decide_eq_true h)] at k
      exact ⟨_, rfl, k⟩
    · rw [if_neg (fun g => h (decide_eq_true g))] at k
      refine ⟨_, rfl, a, _, rfl, .inl hs, rfl, fl ws, _, rfl, ?_⟩
      rw [inV_str]
      refine ite2 (fun h2 => ?_) (fun h2 => ?_)
      · rw [if_pos (of_decide_eq_true h2)] at k
        exact k
      · rw [if_neg (fun g => h2 (decide_eq_true g))] at k
        exact ⟨_, rfl, k⟩
/-! ### what a value answers -/
/-- by the word of a filter of one text -/
def fits (w : Str) (y x : List Nat) : Bool :=
  if w = "is" then decide (x = y) else if w = "below" then decide (x < y) else if w = "above" then decide (y < x) else decide (x.take y.length = y)
theorem starts_tx (x y : List Nat) : Txt.startswith (tx x) (tx y) = decide (x.take y.length = y) := by
  have e : Txt.startswith (tx x) (tx y) = (decide (0 + (tx y).length ≤ (tx x).length) && Builtin.Str.subAt (tx x) (tx y) 0) := rfl
  have e2 : Builtin.Str.subAt (tx x) (tx y) 0 = decide (x.take y.length = y) := by
    rw [PySem.StrLaws.subAt_eq, tx_len]
    show ((x.drop 0).take y.length == y) = _
    rw [List.drop_zero]
    by_cases h : x.take y.length = y
    · rw [decide_eq_true h]
      exact beq_iff_eq.mpr h
    · rw [decide_eq_false h]
      exact beq_eq_false_iff_ne.mpr h
  rw [e, e2, tx_len, tx_len]
  by_cases h : x.take y.length = y
  · have : y.length ≤ x.length := by
      have := congrArg List.length h
      rw [List.length_take] at this
      omega
    rw [decide_eq_true (by omega : 0 + y.length ≤ x.length), Bool.true_and]
  · rw [decide_eq_false h, Bool.and_false]
theorem eq_tx (x y : List Nat) : decide (Tx x = Tx y) = decide (x = y) := by
  by_cases h : x = y
  · rw [h, decide_eq_true rfl, decide_eq_true rfl]
  · rw [decide_eq_false h, decide_eq_false fun e => h (tx_inj (V.str.inj e))]
/-- the text or texts behind the word, and the one that is asked -/
def spMat (K : PySem.W.Frag) : Sp := fun vs H Q _ =>
  (∃ (w : Str) (y x : List Nat), vs = [.str w, Tx y, Tx x] ∧ (w = "is" ∨ w = "below" ∨ w = "above" ∨ w = "begins") ∧ Q (.bl (fits w y x)) H) ∨
  ∃ (a : Addr) (ys : List (List Nat)) (x : List Nat), vs = [.str "among", .ref a, Tx x] ∧ SqT K H a (ys.map Tx) ∧ Q (.bl (decide (x ∈ ys))) H
theorem cl_matches {f : Addr} {fd : FuncData} (D : Df K mg "matches" s_matches ["word", "wanted", "text"] f fd) (T : Nm mg) : Cl P w K mg base 1 "matches" s_matches ["word", "wanted", "text"] (spMat K) := by
  refine D.cl sc_matches (fun vs H Q E h => ?_) (fun cdv A outer s H vs Q E hr h => ?_)
  · rcases h with ⟨w, y, x, rfl, _⟩ | ⟨a, ys, x, rfl, _⟩ <;> rfl
  · have no : ∀ {p : Prop} {a b : Str}, decide (V.str a = V.str b) = true → (a = b → False) → p := fun h n => absurd (V.str.inj (of_decide_eq_true h)) n
    have ne : ∀ {a b : Str}, ¬ decide (V.str a = V.str b) = true → a ≠ b := fun h n => h (decide_eq_true (congrArg V.str n))
    refine ⟨_, (pss_cons (ps_if (pt_cmpR op_eq (pv 0) pe_str (by first | exact nomark _ | rfl)) (pss_one (ps_ret (pe_cmpR op_eq (pv 2) (pv 1) (by first | exact nomark _ | rfl)))) pss_nil)
      (pss_cons (ps_if (pt_cmpR op_eq (pv 0) pe_str (by first | exact nomark _ | rfl)) (pss_one (ps_ret (pe_cmpR op_lt_str (pv 2) (pv 1) (by first | exact nomark _ | rfl)))) pss_nil)
      (pss_cons (ps_if (pt_cmpR op_eq (pv 0) pe_str (by first | exact nomark _ | rfl)) (pss_one (ps_ret (pe_cmpR op_gt_str (pv 2) (pv 1) (by first | exact nomark _ | rfl)))) pss_nil)
      (pss_cons (ps_if (pt_cmpR op_eq (pv 0) pe_str (by first | exact nomark _ | rfl)) (pss_one (ps_ret (pe_bm PySem.F.plainAttrs_str PySem.F.slot_str_startswith PySem.F.type_str_startswith mt_startswith (pv 2) (pa_cons (pv 1) pa_nil)))) pss_nil)
      (pss_one (ps_ret (pe_cmpR op_in_seq (pv 2) (pv 1) (by first | exact nomark _ | rfl)))))))), ?_⟩
    rcases h with ⟨w, y, x, rfl, hw, k⟩ | ⟨a, ys, x, rfl, hs, k⟩
    · refine ⟨_, rfl, rfl, _, rfl, ite2 (fun h => ?_) (fun h => ?_)⟩
      · have e : w = "is" := V.str.inj (of_decide_eq_true h)
        subst e
        refine ⟨_, rfl, _, rfl, rfl, ?_⟩
        rw [show decide (Tx x = Tx y) = fits "is" y x from eq_tx x y]
        exact k
      refine ⟨_, rfl, rfl, _, rfl, ite2 (fun h2 => ?_) (fun h2 => ?_)⟩
      · have e : w = "below" := V.str.inj (of_decide_eq_true h2)
        subst e
        exact ⟨_, rfl, _, rfl, tx x, tx y, rfl, rfl, k⟩
      refine ⟨_, rfl, rfl, _, rfl, ite2 (fun h3 => ?_) (fun h3 => ?_)⟩
      · have e : w = "above" := V.str.inj (of_decide_eq_true h3)
        subst e
        exact ⟨_, rfl, _, rfl, tx x, tx y, rfl, rfl, k⟩
      have e : w = "begins" := by
        rcases hw with e | e | e | e
        · exact absurd e (ne h)
        · exact absurd e (ne h2)
        · exact absurd e (ne h3)
        · exact e
      subst e
      refine ⟨_, rfl, rfl, _, rfl, ite2 (fun _ => ?_) (fun h4 => absurd (decide_eq_true rfl) h4)⟩
      refine ⟨_, rfl, rfl, _, rfl, tx x, tx y, rfl, rfl, ?_⟩
      rw [starts_tx]
      exact k
    · have nf : ∀ {s : Str}, ("among" : Str) ≠ s → ¬ decide (V.str "among" = V.str s) = true := fun n h => n (V.str.inj (of_decide_eq_true h))
      refine ⟨_, rfl, rfl, _, rfl, ite2 (fun h => absurd h (nf (by decide +kernel))) (fun _ => ?_)⟩
      refine ⟨_, rfl, rfl, _, rfl, ite2 (fun h => absurd h (nf (by decide +kernel))) (fun _ => ?_)⟩
      refine ⟨_, rfl, rfl, _, rfl, ite2 (fun h => absurd h (nf (by decide +kernel))) (fun _ => ?_)⟩
      refine ⟨_, rfl, rfl, _, rfl, ite2 (fun h => absurd h (nf (by decide +kernel))) (fun _ => ?_)⟩
      refine ⟨_, rfl, _, rfl, a, _, rfl, .inr hs, rfl, ?_, ?_⟩
      · simp [flatV]
      · have e : inV (Tx x) (ys.map Tx) = decide (x ∈ ys) := by
          have e1 : ys.map Tx = (ys.map tx).map V.str := by rw [List.map_map]; rfl
          rw [e1, show Tx x = V.str (tx x) from rfl, inV_str]
          by_cases h : x ∈ ys
          · rw [decide_eq_true h, decide_eq_true (List.mem_map.mpr ⟨x, h, rfl⟩)]
          · rw [decide_eq_false h, decide_eq_false fun g => ?_]
            obtain ⟨z, hz, ez⟩ := List.mem_map.mp g
            exact h (tx_inj ez ▸ hz)
        show _
        rw [if_neg (by decide), e]
        exact k
abbrev s_answer_to : Stmt := topS 29
abbrev N_answer_to : List Str := ["query", "value", "word", "part"]
theorem sc_answer_to : FnScope ["query", "value", "word", "part"] ["query", "value"] (defScope s_answer_to) := ⟨rfl, rfl, rfl, by decide +kernel, rfl, by decide +kernel, by decide +kernel⟩

/-! ### levels: 0 no, 1 open, 2 yes -/
def bLev (b : Bool) : Int := if b then 2 else 0
def ansW (i : Int) : Str := if i = 0 then "no" else if i = 1 then "open" else "yes"
def eqD (x : List Nat) : Dt → Bool
  | .str y => decide (x = y)
  | _ => false
def levW (f : Dt → Int) (t : Vl) (w : Str) (p : Dt) : Int :=
  if w = "say" then (match p with | .bl b => bLev b | _ => 0)
  else if w = "not" then 2 - f p
  else if w = "and" then (match p with | .tup ds => foldMin (ds.map f) 2 | _ => 0)
  else if w = "or" then (match p with | .tup ds => foldMax (ds.map f) 0 | _ => 0)
  else match t with
    | none => 1
    | some x => if w = "among" then (match p with | .tup ds => bLev (ds.any (eqD x)) | _ => 0) else (match p with | .str y => bLev (fits w y x) | _ => 0)
def levS (f : Dt → Int) (t : Vl) : Dt → Int
  | .tup [_] => bLev (decide (t = none))
  | .tup [.str w, p] => levW f t (tx w) p
  | _ => 0
def lev : Nat → Vl → Dt → Int
  | 0, _, _ => 0
  | n + 1, t, d => levS (lev n t) t d
theorem lev_two (n : Nat) (t : Vl) (w : Str) (p : Dt) : lev (n + 1) t (.tup [.str w.cps.toList, p]) = levW (lev n t) t w p := by
  show levW (lev n t) t (tx w.cps.toList) p = _
  rw [lit_tx]
theorem lev_say (f : Dt → Int) (t : Vl) (b : Bool) : levW f t "say" (.bl b) = bLev b := if_pos rfl
theorem lev_not (f : Dt → Int) (t : Vl) (p : Dt) : levW f t "not" p = 2 - f p := by unfold levW; rw [if_neg (by decide +kernel), if_pos rfl]
theorem lev_and (f : Dt → Int) (t : Vl) (ds : List Dt) : levW f t "and" (.tup ds) = foldMin (ds.map f) 2 := by unfold levW; rw [if_neg (by decide +kernel), if_neg (by decide +kernel), if_pos rfl]
theorem lev_or (f : Dt → Int) (t : Vl) (ds : List Dt) : levW f t "or" (.tup ds) = foldMax (ds.map f) 0 := by unfold levW; rw [if_neg (by decide +kernel), if_neg (by decide +kernel), if_neg (by decide +kernel), if_pos rfl]
/-- a word of texts -/
def TxW (w : Str) : Prop := w ≠ "none" ∧ w ≠ "say" ∧ w ≠ "not" ∧ w ≠ "and" ∧ w ≠ "or"
theorem lev_txn (f : Dt → Int) {w : Str} (h : TxW w) (p : Dt) : levW f none w p = 1 := by
  unfold levW
  rw [if_neg h.2.1, if_neg h.2.2.1, if_neg h.2.2.2.1, if_neg h.2.2.2.2]
theorem lev_txs (f : Dt → Int) {w : Str} (h : TxW w) (g : w ≠ "among") (x y : List Nat) : levW f (some x) w (.str y) = bLev (fits w y x) := by
  unfold levW
  rw [if_neg h.2.1, if_neg h.2.2.1, if_neg h.2.2.2.1, if_neg h.2.2.2.2]
  show (if w = "among" then _ else _) = _
  rw [if_neg g]
theorem txw_among : TxW "among" := ⟨by decide +kernel, by decide +kernel, by decide +kernel, by decide +kernel, by decide +kernel⟩
theorem lev_among (f : Dt → Int) (x : List Nat) (ds : List Dt) : levW f (some x) "among" (.tup ds) = bLev (ds.any (eqD x)) := by
  have h := txw_among
  unfold levW
  rw [if_neg h.2.1, if_neg h.2.2.1, if_neg h.2.2.2.1, if_neg h.2.2.2.2]
  show (if ("among" : Str) = "among" then _ else _) = _
  rw [if_pos rfl]
theorem txw_tx {w : Str} (h : w = "is" ∨ w = "below" ∨ w = "above" ∨ w = "begins") : TxW w ∧ w ≠ "among" := by
  rcases h with rfl | rfl | rfl | rfl <;> exact ⟨⟨by decide +kernel, by decide +kernel, by decide +kernel, by decide +kernel, by decide +kernel⟩, by decide +kernel⟩
theorem ans_b (b : Bool) : (if b then ("yes" : Str) else "no") = ansW (bLev b) := by cases b <;> decide +kernel
theorem rp1 {K : PySem.W.Frag} {H : Hp} {v : V} {w : Str} (r : Rp K H v (.tup [.str w.cps.toList])) : ∃ a, v = .ref a ∧ SqT K H a [.str w] := by
  cases r with
  | tup hs _ rl =>
    cases rl with
    | cons r0 rr =>
      cases rr
      cases r0
      rw [show Tx w.cps.toList = V.str w from congrArg V.str (lit_tx w)] at hs
      exact ⟨_, rfl, hs⟩
theorem rp2 {K : PySem.W.Frag} {H : Hp} {v : V} {w : Str} {p : Dt} (r : Rp K H v (.tup [.str w.cps.toList, p])) : ∃ a u, v = .ref a ∧ SqT K H a [.str w, u] ∧ Rp K H u p := by
  cases r with
  | tup hs _ rl =>
    cases rl with
    | cons r0 rr =>
      cases rr with
      | cons r1 rn =>
        cases rn
        cases r0
        rw [show Tx w.cps.toList = V.str w from congrArg V.str (lit_tx w)] at hs
        exact ⟨_, _, rfl, hs, r1⟩
def In3 (i : Int) : Prop := i = 0 ∨ i = 1 ∨ i = 2
theorem in3_b (b : Bool) : In3 (bLev b) := by cases b <;> simp [bLev, In3]
theorem in3_min : ∀ (r : List Int) (n : Int), In3 n → (∀ x ∈ r, In3 x) → In3 (r.foldl min n)
  | [], _, h, _ => h
  | x :: r, n, h, g => in3_min r _ (by have := g x List.mem_cons_self; unfold In3 at *; omega) fun y m => g y (List.mem_cons_of_mem _ m)
theorem in3_max : ∀ (r : List Int) (n : Int), In3 n → (∀ x ∈ r, In3 x) → In3 (r.foldl max n)
  | [], _, h, _ => h
  | x :: r, n, h, g => in3_max r _ (by have := g x List.mem_cons_self; unfold In3 at *; omega) fun y m => g y (List.mem_cons_of_mem _ m)
theorem in3_fmin {ns : List Int} (h : ∀ x ∈ ns, In3 x) : In3 (foldMin ns 2) := by
  cases ns with
  | nil => exact .inr (.inr rfl)
  | cons n r => exact in3_min r n (h n List.mem_cons_self) fun x m => h x (List.mem_cons_of_mem _ m)
theorem in3_fmax {ns : List Int} (h : ∀ x ∈ ns, In3 x) : In3 (foldMax ns 0) := by
  cases ns with
  | nil => exact .inl rfl
  | cons n r => exact in3_max r n (h n List.mem_cons_self) fun x m => h x (List.mem_cons_of_mem _ m)
theorem in3_turn {i : Int} (h : In3 i) : In3 (2 - i) := by unfold In3 at *; omega
theorem levW_in {f : Dt → Int} (hf : ∀ d, In3 (f d)) (t : Vl) (w : Str) (p : Dt) : In3 (levW f t w p) := by
  have hs : ∀ ds : List Dt, ∀ x ∈ ds.map f, In3 x := fun ds x m => by
    obtain ⟨d, _, rfl⟩ := List.mem_map.mp m
    exact hf d
  unfold levW
  repeat' split
  all_goals first | exact .inl rfl | exact .inr (.inl rfl) | exact in3_b _ | exact in3_turn (hf _) | exact in3_fmin (hs _) | exact in3_fmax (hs _)
theorem lev_in : ∀ (n : Nat) (t : Vl) (d : Dt), In3 (lev n t d)
  | 0, _, _ => .inl rfl
  | n + 1, t, d => by
    show In3 (levS (lev n t) t d)
    unfold levS
    repeat' split
    all_goals first | exact .inl rfl | exact in3_b _ | exact levW_in (lev_in n t) _ _ _
theorem txs_of : ∀ {ds : List Dt}, (∀ d ∈ ds, IsTx d) → ∃ ys : List (List Nat), ds = ys.map Dt.str
  | [], _ => ⟨[], rfl⟩
  | d :: ds, h => by
    obtain ⟨l, rfl, _⟩ := h d List.mem_cons_self
    obtain ⟨ys, rfl⟩ := txs_of (ds := ds) fun d m => h d (List.mem_cons_of_mem _ m)
    exact ⟨l :: ys, rfl⟩
theorem dep_two {a p : Dt} {n : Nat} (h : (Dt.tup [a, p]).dep < n + 1) : p.dep < n := by
  have h1 := Dt.dep_mem (ds := [a, p]) (d := p) (by simp)
  have e : (Dt.tup [a, p]).dep = Dt.depL [a, p] + 1 := rfl
  omega
theorem dep_in {a d : Dt} {ds : List Dt} {n : Nat} (h : (Dt.tup [a, .tup ds]).dep < n + 1) (m : d ∈ ds) : d.dep < n := by
  have h1 := dep_two h
  have h2 := Dt.dep_mem m
  have e : (Dt.tup ds).dep = Dt.depL ds + 1 := rfl
  omega
theorem fold_min : ∀ (r : List Int) (n : Int), (r.foldl min n = n ∨ r.foldl min n ∈ r) ∧ r.foldl min n ≤ n ∧ ∀ x ∈ r, r.foldl min n ≤ x
  | [], n => ⟨.inl rfl, Int.le_refl _, fun _ m => nomatch m⟩
  | x :: r, n => by
    obtain ⟨h1, h2, h3⟩ := fold_min r (min n x)
    show (r.foldl min (min n x) = n ∨ r.foldl min (min n x) ∈ x :: r) ∧ r.foldl min (min n x) ≤ n ∧ ∀ y ∈ x :: r, r.foldl min (min n x) ≤ y
    refine ⟨?_, by omega, fun y m => ?_⟩
    · rcases h1 with h | h
      · by_cases g : n ≤ x
        · exact .inl (by omega)
        · exact .inr (by rw [h, show min n x = x by omega]; exact List.mem_cons_self)
      · exact .inr (List.mem_cons_of_mem _ h)
    · rcases List.mem_cons.mp m with rfl | m
      · omega
      · exact h3 y m
theorem fold_max : ∀ (r : List Int) (n : Int), (r.foldl max n = n ∨ r.foldl max n ∈ r) ∧ n ≤ r.foldl max n ∧ ∀ x ∈ r, x ≤ r.foldl max n
  | [], n => ⟨.inl rfl, Int.le_refl _, fun _ m => nomatch m⟩
  | x :: r, n => by
    obtain ⟨h1, h2, h3⟩ := fold_max r (max n x)
    show (r.foldl max (max n x) = n ∨ r.foldl max (max n x) ∈ x :: r) ∧ n ≤ r.foldl max (max n x) ∧ ∀ y ∈ x :: r, y ≤ r.foldl max (max n x)
    refine ⟨?_, by omega, fun y m => ?_⟩
    · rcases h1 with h | h
      · by_cases g : x ≤ n
        · exact .inl (by omega)
        · exact .inr (by rw [h, show max n x = x by omega]; exact List.mem_cons_self)
      · exact .inr (List.mem_cons_of_mem _ h)
    · rcases List.mem_cons.mp m with rfl | m
      · omega
      · exact h3 y m
theorem fmin_iff {ns : List Int} (h : ∀ x ∈ ns, In3 x) (i : Int) (hi : i = 0 ∨ i = 1) : foldMin ns 2 = i ↔ i ∈ ns ∧ ∀ x ∈ ns, i ≤ x := by
  cases ns with
  | nil => exact ⟨fun e => by have : (2 : Int) = i := e; omega, fun ⟨m, _⟩ => nomatch m⟩
  | cons n r =>
    obtain ⟨h1, h2, h3⟩ := fold_min r n
    have e : foldMin (n :: r) 2 = r.foldl min n := rfl
    rw [e]
    refine ⟨fun g => ?_, fun ⟨m, g⟩ => ?_⟩
    · rw [g] at h1 h2 h3
      refine ⟨?_, fun x m => ?_⟩
      · rcases h1 with h1 | h1
        · rw [h1]; exact List.mem_cons_self
        · exact List.mem_cons_of_mem _ h1
      · rcases List.mem_cons.mp m with rfl | m
        · exact h2
        · exact h3 x m
    · have a1 : r.foldl min n ≤ i := by
        rcases List.mem_cons.mp m with rfl | m
        · exact h2
        · exact h3 i m
      have a2 : i ≤ r.foldl min n := by
        rcases h1 with h1 | h1
        · rw [h1]; exact g n List.mem_cons_self
        · exact g _ (List.mem_cons_of_mem _ h1)
      omega
theorem fmax_iff {ns : List Int} (h : ∀ x ∈ ns, In3 x) (i : Int) (hi : i = 1 ∨ i = 2) : foldMax ns 0 = i ↔ i ∈ ns ∧ ∀ x ∈ ns, x ≤ i := by
  cases ns with
  | nil => exact ⟨fun e => by have : (0 : Int) = i := e; omega, fun ⟨m, _⟩ => nomatch m⟩
  | cons n r =>
    obtain ⟨h1, h2, h3⟩ := fold_max r n
    have e : foldMax (n :: r) 0 = r.foldl max n := rfl
    rw [e]
    refine ⟨fun g => ?_, fun ⟨m, g⟩ => ?_⟩
    · rw [g] at h1 h2 h3
      refine ⟨?_, fun x m => ?_⟩
      · rcases h1 with h1 | h1
        · rw [h1]; exact List.mem_cons_self
        · exact List.mem_cons_of_mem _ h1
      · rcases List.mem_cons.mp m with rfl | m
        · exact h2
        · exact h3 x m
    · have a1 : i ≤ r.foldl max n := by
        rcases List.mem_cons.mp m with rfl | m
        · exact h2
        · exact h3 i m
      have a2 : r.foldl max n ≤ i := by
        rcases h1 with h1 | h1
        · rw [h1]; exact g n List.mem_cons_self
        · exact g _ (List.mem_cons_of_mem _ h1)
      omega
theorem ans_mem {ns : List Int} (h : ∀ x ∈ ns, In3 x) {i : Int} (hi : In3 i) : ansW i ∈ ns.map ansW ↔ i ∈ ns := by
  refine ⟨fun m => ?_, fun m => List.mem_map.mpr ⟨i, m, rfl⟩⟩
  obtain ⟨j, hj, e⟩ := List.mem_map.mp m
  have : j = i := by
    rcases h j hj with rfl | rfl | rfl <;> rcases hi with rfl | rfl | rfl <;> first | rfl | exact absurd e (by decide +kernel)
  rw [← this]
  exact hj
theorem set_min {ns : List Int} (h : ∀ x ∈ ns, In3 x) : (if ("no" : Str) ∈ ns.map ansW then ("no" : Str) else if ("open" : Str) ∈ ns.map ansW then "open" else "yes") = ansW (foldMin ns 2) := by
  have m0 : ("no" : Str) ∈ ns.map ansW ↔ (0 : Int) ∈ ns := ans_mem h (.inl rfl)
  have m1 : ("open" : Str) ∈ ns.map ansW ↔ (1 : Int) ∈ ns := ans_mem h (.inr (.inl rfl))
  by_cases g0 : (0 : Int) ∈ ns
  · rw [if_pos (m0.mpr g0), (fmin_iff h 0 (.inl rfl)).mpr ⟨g0, fun x m => by have := h x m; unfold In3 at this; omega⟩]
    decide +kernel
  · rw [if_neg fun q => g0 (m0.mp q)]
    have n0 : ∀ x ∈ ns, 1 ≤ x := fun x m => by
      have h1 := h x m
      have h2 : x ≠ 0 := fun e => g0 (e ▸ m)
      unfold In3 at h1
      omega
    by_cases g1 : (1 : Int) ∈ ns
    · rw [if_pos (m1.mpr g1), (fmin_iff h 1 (.inr rfl)).mpr ⟨g1, n0⟩]
      decide +kernel
    · rw [if_neg fun q => g1 (m1.mp q)]
      have f0 : foldMin ns 2 ≠ 0 := fun e => g0 ((fmin_iff h 0 (.inl rfl)).mp e).1
      have f1 : foldMin ns 2 ≠ 1 := fun e => g1 ((fmin_iff h 1 (.inr rfl)).mp e).1
      rcases in3_fmin h with e | e | e
      · exact absurd e f0
      · exact absurd e f1
      · rw [e]
        decide +kernel
theorem set_max {ns : List Int} (h : ∀ x ∈ ns, In3 x) : (if ("yes" : Str) ∈ ns.map ansW then ("yes" : Str) else if ("open" : Str) ∈ ns.map ansW then "open" else "no") = ansW (foldMax ns 0) := by
  have m2 : ("yes" : Str) ∈ ns.map ansW ↔ (2 : Int) ∈ ns := ans_mem h (.inr (.inr rfl))
  have m1 : ("open" : Str) ∈ ns.map ansW ↔ (1 : Int) ∈ ns := ans_mem h (.inr (.inl rfl))
  by_cases g0 : (2 : Int) ∈ ns
  · rw [if_pos (m2.mpr g0), (fmax_iff h 2 (.inr rfl)).mpr ⟨g0, fun x m => by have := h x m; unfold In3 at this; omega⟩]
    decide +kernel
  · rw [if_neg fun q => g0 (m2.mp q)]
    have n0 : ∀ x ∈ ns, x ≤ 1 := fun x m => by
      have h1 := h x m
      have h2 : x ≠ 2 := fun e => g0 (e ▸ m)
      unfold In3 at h1
      omega
    by_cases g1 : (1 : Int) ∈ ns
    · rw [if_pos (m1.mpr g1), (fmax_iff h 1 (.inl rfl)).mpr ⟨g1, n0⟩]
      decide +kernel
    · rw [if_neg fun q => g1 (m1.mp q)]
      have f0 : foldMax ns 0 ≠ 2 := fun e => g0 ((fmax_iff h 2 (.inr rfl)).mp e).1
      have f1 : foldMax ns 0 ≠ 1 := fun e => g1 ((fmax_iff h 1 (.inl rfl)).mp e).1
      rcases in3_fmax h with e | e | e
      · rw [e]
        decide +kernel
      · exact absurd e f1
      · exact absurd e f0
def spAns (K : PySem.W.Frag) (n : Nat) : Sp := fun vs H Q _ => ∃ (v : V) (d : Dt) (t : Vl), vs = [v, oV t] ∧ Rp K H v d ∧ Flt d ∧ d.dep < n ∧ OkV t ∧ ∀ H', Stp [] H H' → Q (.str (ansW (lev n t d))) H'
theorem ans_step {f : Addr} {fd : FuncData} (D : Df K mg "answer_to" s_answer_to ["query", "value"] f fd) (T : Nm mg) (TG : Ng K w mg) {n m : Nat} (hm : 1 ≤ m) (c_yes_or_no : Cl P w K mg base 1 "yes_or_no" s_yes_or_no ["holds"] spYes) (c_settled : Cl P w K mg base 1 "settled" s_settled ["answers", "deciding", "otherwise"] (spSet K))
    (c_matches : Cl P w K mg base 1 "matches" s_matches ["word", "wanted", "text"] (spMat K)) (c_answer_to : Cl P w K mg base m "answer_to" s_answer_to ["query", "value"] (spAns K n)) : Cl P w K mg base (m + 1) "answer_to" s_answer_to ["query", "value"] (spAns K (n + 1)) := by
  refine D.cl sc_answer_to (fun vs H Q E h => ?_) (fun cdv A outer s H vs Q E hr h => ?_)
  · obtain ⟨v, d, t, rfl, _⟩ := h
    rfl
  · obtain ⟨v, d, t, rfl, r, fl, dp, ok, k⟩ := h
    refine ⟨_, (pss_cons (ps_set (i := 2) sc_answer_to.nd rfl (by first | exact Or.inl rfl | exact Or.inr rfl) (pe_ix ix_tup (pv 0) pe_int (fun _ _ => rfl)))
      (pss_cons (ps_if (pt_cmpR op_eq (pv 2) pe_str (by first | exact nomark _ | rfl)) (pss_one (ps_ret (pe_cl c_yes_or_no hr (by omega) (pa_cons (pe_cmpR op_isN (pv 1) pe_non (by first | exact nomark _ | rfl)) pa_nil)))) pss_nil)
      (pss_cons (ps_if (pt_cmpR op_eq (pv 2) pe_str (by first | exact nomark _ | rfl)) (pss_one (ps_ret (pe_cl c_yes_or_no hr (by omega) (pa_cons (pe_ix ix_tup (pv 0) pe_int (fun _ _ => rfl)) pa_nil)))) pss_nil)
      (pss_cons (ps_if (pt_cmpR op_eq (pv 2) pe_str (by first | exact nomark _ | rfl)) (pss_one (ps_ret (pe_ix ix_kdict (pe_glob (v := .ref TG.TURNED) rfl TG.g_TURNED rfl) (pe_cl c_answer_to hr (by omega) (pa_cons (pe_ix ix_tup (pv 0) pe_int (fun _ _ => rfl)) (pa_cons (pv 1) pa_nil))) (fun _ _ => rfl)))) pss_nil)
      (pss_cons (ps_if (pt_cmpR op_eq (pv 2) pe_str (by first | exact nomark _ | rfl)) (pss_one (ps_ret (pe_cl c_settled hr (by omega) (pa_cons (pe_lc (own := [("part", 3)]) rfl sc_answer_to.nd (pi_tup (pe_ix ix_tup (pv 0) pe_int (fun _ _ => rfl))) (blkOk_by (own := [("part", 3)]) (N := N_answer_to) (sc := defScope s_answer_to) (by decide +kernel)) (fun _ _ _ _ _ => (pg_name (i := 3) sc_answer_to.nd rfl (by first | exact Or.inl rfl | exact Or.inr rfl))) (fun _ _ _ _ _ => pts_nil) (fun _ _ _ _ _ => (pe_cl c_answer_to hr (by omega) (pa_cons (pv 3) (pa_cons (pv 1) pa_nil))))) (pa_cons pe_str (pa_cons pe_str pa_nil)))))) pss_nil)
      (pss_cons (ps_if (pt_cmpR op_eq (pv 2) pe_str (by first | exact nomark _ | rfl)) (pss_one (ps_ret (pe_cl c_settled hr (by omega) (pa_cons (pe_lc (own := [("part", 3)]) rfl sc_answer_to.nd (pi_tup (pe_ix ix_tup (pv 0) pe_int (fun _ _ => rfl))) (blkOk_by (own := [("part", 3)]) (N := N_answer_to) (sc := defScope s_answer_to) (by decide +kernel)) (fun _ _ _ _ _ => (pg_name (i := 3) sc_answer_to.nd rfl (by first | exact Or.inl rfl | exact Or.inr rfl))) (fun _ _ _ _ _ => pts_nil) (fun _ _ _ _ _ => (pe_cl c_answer_to hr (by omega) (pa_cons (pv 3) (pa_cons (pv 1) pa_nil))))) (pa_cons pe_str (pa_cons pe_str pa_nil)))))) pss_nil)
      (pss_cons (ps_if (pt_cmpR op_isN (pv 1) pe_non (by first | exact nomark _ | rfl)) (pss_one (ps_ret pe_str)) pss_nil)
      (pss_one (ps_ret (pe_cl c_yes_or_no hr (by omega) (pa_cons (pe_cl c_matches hr (by omega) (pa_cons (pv 2) (pa_cons (pe_ix ix_tup (pv 0) pe_int (fun _ _ => rfl)) (pa_cons (pv 1) pa_nil)))) pa_nil))))))))))), ?_⟩
    have nf : ∀ {a b : Str}, a ≠ b → ¬ decide (V.str a = V.str b) = true := fun n h => n (V.str.inj (of_decide_eq_true h))
    have tf : ∀ {a : Str}, decide (V.str a = V.str a) = true := decide_eq_true rfl
    cases fl with
    | none =>
      obtain ⟨a, rfl, hs⟩ := rp1 r
      refine ⟨_, rfl, a, _, 0, _, rfl, rfl, hs, at0, ?_⟩
      refine ⟨_, rfl, rfl, _, rfl, ite2 (fun _ => ?_) (fun h => absurd tf h)⟩
      refine ⟨_, rfl, rfl, _, rfl, ?_⟩
      have e : decide (oV t = V.non) = decide (t = none) := by
        cases t with
        | none => rfl
        | some l => exact (decide_eq_false fun h => nomatch h).trans (decide_eq_false fun h => nomatch h).symm
      rw [e, ans_b]
      exact k H (Stp.refl _ _)
    | say b =>
      obtain ⟨a, u, rfl, hs, ru⟩ := rp2 r
      cases ru
      rw [lev_two, lev_say, ← ans_b] at k
      refine ⟨_, rfl, a, _, 0, _, rfl, rfl, hs, at0, ?_⟩
      refine ⟨_, rfl, rfl, _, rfl, ite2 (fun h => absurd h (nf (by decide +kernel))) (fun _ => ?_)⟩
      refine ⟨_, rfl, rfl, _, rfl, ite2 (fun _ => ?_) (fun h => absurd tf h)⟩
      exact ⟨_, rfl, a, _, 1, _, rfl, rfl, hs, at1, b, rfl, k H (Stp.refl _ _)⟩
    | not f =>
      obtain ⟨a, u, rfl, hs, ru⟩ := rp2 r
      rw [lev_two, lev_not] at k
      refine ⟨_, rfl, a, _, 0, _, rfl, rfl, hs, at0, ?_⟩
      refine ⟨_, rfl, rfl, _, rfl, ite2 (fun h => absurd h (nf (by decide +kernel))) (fun _ => ?_)⟩
      refine ⟨_, rfl, rfl, _, rfl, ite2 (fun h => absurd h (nf (by decide +kernel))) (fun _ => ?_)⟩
      refine ⟨_, rfl, rfl, _, rfl, ite2 (fun _ => ?_) (fun h => absurd tf h)⟩
      refine ⟨_, rfl, a, _, 1, u, rfl, rfl, hs, at1, _, rfl, u, _, t, rfl, ru, f, ?_, ok, fun H1 S1 => ?_⟩
      · exact dep_two dp
      · have k1 := k H1 S1
        rcases lev_in n t _ with e | e | e
        · rw [e] at k1 ⊢
          exact ⟨_, _, _, rfl, rfl, TG.nn, k1⟩
        · rw [e] at k1 ⊢
          exact ⟨_, _, _, rfl, rfl, TG.no, k1⟩
        · rw [e] at k1 ⊢
          exact ⟨_, _, _, rfl, rfl, TG.ny, k1⟩
    | @among ds m =>
      have tw := txw_among
      obtain ⟨a, u, rfl, hs, ru⟩ := rp2 r
      rw [lev_two] at k
      refine ⟨_, rfl, a, _, 0, _, rfl, rfl, hs, at0, ?_⟩
      refine ⟨_, rfl, rfl, _, rfl, ite2 (fun h => absurd h (nf tw.1)) (fun _ => ?_)⟩
      refine ⟨_, rfl, rfl, _, rfl, ite2 (fun h => absurd h (nf tw.2.1)) (fun _ => ?_)⟩
      refine ⟨_, rfl, rfl, _, rfl, ite2 (fun h => absurd h (nf tw.2.2.1)) (fun _ => ?_)⟩
      refine ⟨_, rfl, rfl, _, rfl, ite2 (fun h => absurd h (nf tw.2.2.2.1)) (fun _ => ?_)⟩
      refine ⟨_, rfl, rfl, _, rfl, ite2 (fun h => absurd h (nf tw.2.2.2.2)) (fun _ => ?_)⟩
      cases t with
      | none =>
        rw [lev_txn _ tw] at k
        exact ⟨_, rfl, rfl, _, rfl, ite2 (fun _ => k H (Stp.refl _ _)) (fun h => absurd rfl h)⟩
      | some x =>
        rw [lev_among, ← ans_b] at k
        refine ⟨_, rfl, rfl, _, rfl, ite2 (fun h => absurd h (by simp [oV])) (fun _ => ?_)⟩
        cases ru with
        | tup hs2 hl rl =>
          rename_i b2 us
          obtain ⟨ys, rfl⟩ := txs_of m
          have eu := rpl_strs rl
          rw [eu] at hs2
          have ea : ((ys.map Dt.str).any (eqD x)) = decide (x ∈ ys) := by
            rw [List.any_map, Bool.eq_iff_iff, List.any_eq_true, decide_eq_true_iff]
            exact ⟨fun ⟨y, hy, e⟩ => by have e : x = y := of_decide_eq_true e; exact e ▸ hy, fun h => ⟨x, h, decide_eq_true rfl⟩⟩
          rw [ea] at k
          refine ⟨_, rfl, _, rfl, a, _, 1, _, rfl, rfl, hs, at1, _, rfl, .inr ⟨b2, ys, x, rfl, hs2, ?_⟩⟩
          exact ⟨_, rfl, k H (Stp.refl _ _)⟩
    | @many wd ds hw m =>
      obtain ⟨a, u, rfl, hs, ru⟩ := rp2 r
      rw [lev_two] at k
      cases ru with
      | tup hs2 hl rl =>
        rename_i b2 us
        have all3 : ∀ x ∈ ds.map (lev n t), In3 x := fun x mx => by
          obtain ⟨d, _, rfl⟩ := List.mem_map.mp mx
          exact lev_in n t d
        have stepd : ∀ {j : Nat} {x : V} {dd : Dt} {H3 : Hp} {Q2 : VK}, us[j]? = some x → (ds.map fun d => Dt.str (ansW (lev n t d)).cps.toList)[j]? = some dd → Stp [] H H3 → (∀ y H', Stp [] H3 H' → Rp K H' y dd → Q2 y H') →
            spAns K n [x, oV t] H3 Q2 E := fun {j x dd H3 Q2} hx hd S3 q => by
          obtain ⟨e', he, re⟩ := rl.get hx
          rw [List.getElem?_map, he] at hd
          cases hd
          refine ⟨x, e', t, rfl, re.stp S3 Lsts.nil, m e' (List.mem_of_getElem? he), dep_in dp (List.mem_of_getElem? he), ok, fun H4 S4 => q _ _ S4 (Rp.lit _ ?_)⟩
          rcases lev_in n t e' with g | g | g <;> rw [g] <;> decide +kernel
        have fin : ∀ {ws : List V} {H3 : Hp} {L : Addr}, H3 L = some (.lst ws) → RpL K H3 ws (ds.map fun d => Dt.str (ansW (lev n t d)).cps.toList) → SqL K H3 L (((ds.map (lev n t)).map ansW).map V.str) := fun {ws H3 L} h3 r3 => by
          have e : ws = ((ds.map (lev n t)).map ansW).map V.str := by
            have e1 : (ds.map fun d => Dt.str (ansW (lev n t d)).cps.toList) = (ds.map fun d => (ansW (lev n t d)).cps.toList).map Dt.str := by rw [List.map_map]; rfl
            rw [e1] at r3
            rw [rpl_strs r3, List.map_map, List.map_map, List.map_map]
            exact List.map_congr_left fun d _ => congrArg V.str (lit_tx _)
          rw [← e]
          exact SqL.of h3
        rcases hw with rfl | rfl
        · refine ⟨_, rfl, a, _, 0, _, rfl, rfl, hs, at0, ?_⟩
          refine ⟨_, rfl, rfl, _, rfl, ite2 (fun h => absurd h (nf (by decide +kernel))) (fun _ => ?_)⟩
          refine ⟨_, rfl, rfl, _, rfl, ite2 (fun h => absurd h (nf (by decide +kernel))) (fun _ => ?_)⟩
          refine ⟨_, rfl, rfl, _, rfl, ite2 (fun h => absurd h (nf (by decide +kernel))) (fun _ => ?_)⟩
          refine ⟨_, rfl, rfl, _, rfl, ite2 (fun _ => ?_) (fun h => absurd tf h)⟩
          rw [lev_and, ← set_min all3] at k
          refine ⟨_, rfl, a, _, 1, _, rfl, rfl, hs, at1, b2, rfl, ⟨_, hs2⟩, fun L nL => ?_⟩
          refine lc_mapT9 nL hs2 (by rw [List.length_map, rl.len]) (by omega) (fun j x dd H3 hx hd S3 Q2 q => ⟨rfl, _, rfl, _, rfl, stepd hx hd S3 q⟩) fun ws H3 S3 h3 r3 => ?_
          exact ⟨L, _, _, _, rfl, fin h3 r3, k H3 S3⟩
        · refine ⟨_, rfl, a, _, 0, _, rfl, rfl, hs, at0, ?_⟩
          refine ⟨_, rfl, rfl, _, rfl, ite2 (fun h => absurd h (nf (by decide +kernel))) (fun _ => ?_)⟩
          refine ⟨_, rfl, rfl, _, rfl, ite2 (fun h => absurd h (nf (by decide +kernel))) (fun _ => ?_)⟩
          refine ⟨_, rfl, rfl, _, rfl, ite2 (fun h => absurd h (nf (by decide +kernel))) (fun _ => ?_)⟩
          refine ⟨_, rfl, rfl, _, rfl, ite2 (fun h => absurd h (nf (by decide +kernel))) (fun _ => ?_)⟩
          refine ⟨_, rfl, rfl, _, rfl, ite2 (fun _ => ?_) (fun h => absurd tf h)⟩
          rw [lev_or, ← set_max all3] at k
          refine ⟨_, rfl, a, _, 1, _, rfl, rfl, hs, at1, b2, rfl, ⟨_, hs2⟩, fun L nL => ?_⟩
          refine lc_mapT9 nL hs2 (by rw [List.length_map, rl.len]) (by omega) (fun j x dd H3 hx hd S3 Q2 q => ⟨rfl, _, rfl, _, rfl, stepd hx hd S3 q⟩) fun ws H3 S3 h3 r3 => ?_
          exact ⟨L, _, _, _, rfl, fin h3 r3, k H3 S3⟩
    | tx hw ha =>
      obtain ⟨tw, na⟩ := txw_tx hw
      obtain ⟨a, u, rfl, hs, ru⟩ := rp2 r
      cases ru
      rw [lev_two] at k
      refine ⟨_, rfl, a, _, 0, _, rfl, rfl, hs, at0, ?_⟩
      refine ⟨_, rfl, rfl, _, rfl, ite2 (fun h => absurd h (nf tw.1)) (fun _ => ?_)⟩
      refine ⟨_, rfl, rfl, _, rfl, ite2 (fun h => absurd h (nf tw.2.1)) (fun _ => ?_)⟩
      refine ⟨_, rfl, rfl, _, rfl, ite2 (fun h => absurd h (nf tw.2.2.1)) (fun _ => ?_)⟩
      refine ⟨_, rfl, rfl, _, rfl, ite2 (fun h => absurd h (nf tw.2.2.2.1)) (fun _ => ?_)⟩
      refine ⟨_, rfl, rfl, _, rfl, ite2 (fun h => absurd h (nf tw.2.2.2.2)) (fun _ => ?_)⟩
      cases t with
      | none =>
        rw [lev_txn _ tw] at k
        exact ⟨_, rfl, rfl, _, rfl, ite2 (fun _ => k H (Stp.refl _ _)) (fun h => absurd rfl h)⟩
      | some x =>
        rw [lev_txs _ tw na, ← ans_b] at k
        refine ⟨_, rfl, rfl, _, rfl, ite2 (fun h => absurd h (by simp [oV])) (fun _ => ?_)⟩
        refine ⟨_, rfl, _, rfl, a, _, 1, _, rfl, rfl, hs, at1, _, rfl, .inl ⟨_, _, x, rfl, hw, ?_⟩⟩
        exact ⟨_, rfl, k H (Stp.refl _ _)⟩
/-! ### what texts answer: yes or no -/
def yesB (n : Nat) (d : Dt) (w : Txt) : Bool := decide (lev n (some w) d = 2)
def In02 (i : Int) : Prop := i = 0 ∨ i = 2
theorem in02_b (b : Bool) : In02 (bLev b) := by cases b <;> simp [bLev, In02]
theorem in02_fmin {ns : List Int} (h : ∀ x ∈ ns, In02 x) : In02 (foldMin ns 2) := by
  cases ns with
  | nil => exact .inr rfl
  | cons n r =>
    rcases (fold_min r n).1 with e | e
    · show In02 (r.foldl min n)
      rw [e]
      exact h n List.mem_cons_self
    · exact h _ (List.mem_cons_of_mem _ e)
theorem in02_fmax {ns : List Int} (h : ∀ x ∈ ns, In02 x) : In02 (foldMax ns 0) := by
  cases ns with
  | nil => exact .inl rfl
  | cons n r =>
    rcases (fold_max r n).1 with e | e
    · show In02 (r.foldl max n)
      rw [e]
      exact h n List.mem_cons_self
    · exact h _ (List.mem_cons_of_mem _ e)
theorem levW_02 {f : Dt → Int} (hf : ∀ d, In02 (f d)) (x w : Str) (y : Txt) (p : Dt) : In02 (levW f (some y) w p) := by
  have hs : ∀ ds : List Dt, ∀ x ∈ ds.map f, In02 x := fun ds x m => by
    obtain ⟨d, _, rfl⟩ := List.mem_map.mp m
    exact hf d
  unfold levW
  repeat' split
  all_goals first | exact .inl rfl | exact in02_b _ | exact (by have := hf p; unfold In02 at *; omega) | exact in02_fmin (hs _) | exact in02_fmax (hs _) | contradiction
theorem lev_02 : ∀ (n : Nat) (y : Txt) (d : Dt), In02 (lev n (some y) d)
  | 0, _, _ => .inl rfl
  | n + 1, y, d => by
    show In02 (levS (lev n (some y)) (some y) d)
    unfold levS
    repeat' split
    all_goals first | exact .inl rfl | exact in02_b _ | exact levW_02 (lev_02 n y) "" _ _ _
theorem lev_yes (n : Nat) (y : Txt) (d : Dt) : lev n (some y) d = bLev (yesB n d y) := by
  unfold yesB
  rcases lev_02 n y d with h | h <;> rw [h] <;> decide
theorem bLev_two (b : Bool) : decide (bLev b = 2) = b := by cases b <;> decide
theorem bLev_not (b : Bool) : 2 - bLev b = bLev (!b) := by cases b <;> decide
theorem min_bl (a b : Bool) : min (bLev a) (bLev b) = bLev (a && b) := by cases a <;> cases b <;> decide
theorem max_bl (a b : Bool) : max (bLev a) (bLev b) = bLev (a || b) := by cases a <;> cases b <;> decide
theorem foldl_min_bl : ∀ (bs : List Bool) (b : Bool), (bs.map bLev).foldl min (bLev b) = bLev (b && bs.all id)
  | [], b => by simp
  | c :: bs, b => by
    rw [List.map_cons, List.foldl_cons, min_bl, foldl_min_bl bs, List.all_cons, Bool.and_assoc]
    rfl
theorem foldl_max_bl : ∀ (bs : List Bool) (b : Bool), (bs.map bLev).foldl max (bLev b) = bLev (b || bs.any id)
  | [], b => by simp
  | c :: bs, b => by
    rw [List.map_cons, List.foldl_cons, max_bl, foldl_max_bl bs, List.any_cons, Bool.or_assoc]
    rfl
theorem foldMin_bl (bs : List Bool) : foldMin (bs.map bLev) 2 = bLev (bs.all id) := by
  cases bs with
  | nil => rfl
  | cons b bs => exact foldl_min_bl bs b
theorem foldMax_bl (bs : List Bool) : foldMax (bs.map bLev) 0 = bLev (bs.any id) := by
  cases bs with
  | nil => rfl
  | cons b bs => exact foldl_max_bl bs b
theorem yes_none (n : Nat) (w : Txt) : yesB (n + 1) (.tup [.str ("none" : Str).cps.toList]) w = false := by
  show decide (bLev (decide (some w = none)) = 2) = false
  rw [bLev_two]
  exact decide_eq_false fun h => nomatch h
theorem yes_say (n : Nat) (b : Bool) (w : Txt) : yesB (n + 1) (.tup [.str ("say" : Str).cps.toList, .bl b]) w = b := by
  unfold yesB
  rw [lev_two, lev_say, bLev_two]
theorem yes_not (n : Nat) (d : Dt) (w : Txt) : yesB (n + 1) (.tup [.str ("not" : Str).cps.toList, d]) w = !yesB n d w := by
  rw [show yesB (n + 1) (.tup [.str ("not" : Str).cps.toList, d]) w = decide (lev (n + 1) (some w) (.tup [.str ("not" : Str).cps.toList, d]) = 2) from rfl]
  rw [lev_two, lev_not, lev_yes, bLev_not, bLev_two]
theorem yes_and (n : Nat) (ds : List Dt) (w : Txt) : yesB (n + 1) (.tup [.str ("and" : Str).cps.toList, .tup ds]) w = ds.all fun d => yesB n d w := by
  rw [show yesB (n + 1) (.tup [.str ("and" : Str).cps.toList, .tup ds]) w = decide (lev (n + 1) (some w) (.tup [.str ("and" : Str).cps.toList, .tup ds]) = 2) from rfl]
  rw [lev_two, lev_and, show ds.map (lev n (some w)) = (ds.map fun d => yesB n d w).map bLev by rw [List.map_map]; exact List.map_congr_left fun d _ => lev_yes n w d, foldMin_bl, bLev_two, List.all_map]
  rfl
theorem yes_or (n : Nat) (ds : List Dt) (w : Txt) : yesB (n + 1) (.tup [.str ("or" : Str).cps.toList, .tup ds]) w = ds.any fun d => yesB n d w := by
  rw [show yesB (n + 1) (.tup [.str ("or" : Str).cps.toList, .tup ds]) w = decide (lev (n + 1) (some w) (.tup [.str ("or" : Str).cps.toList, .tup ds]) = 2) from rfl]
  rw [lev_two, lev_or, show ds.map (lev n (some w)) = (ds.map fun d => yesB n d w).map bLev by rw [List.map_map]; exact List.map_congr_left fun d _ => lev_yes n w d, foldMax_bl, bLev_two, List.any_map]
  rfl
theorem yes_among (n : Nat) (ys : List Txt) (w : Txt) : yesB (n + 1) (.tup [.str ("among" : Str).cps.toList, .tup (ys.map Dt.str)]) w = decide (w ∈ ys) := by
  unfold yesB
  rw [lev_two, lev_among, bLev_two, List.any_map, Bool.eq_iff_iff, List.any_eq_true, decide_eq_true_iff]
  exact ⟨fun ⟨y, hy, e⟩ => by have e : w = y := of_decide_eq_true e; exact e ▸ hy, fun h => ⟨w, h, decide_eq_true rfl⟩⟩
theorem yes_tx (n : Nat) {wd : Str} (hw : wd = "is" ∨ wd = "below" ∨ wd = "above" ∨ wd = "begins") (y w : Txt) : yesB (n + 1) (.tup [.str wd.cps.toList, .str y]) w = fits wd y w := by
  unfold yesB
  obtain ⟨tw, na⟩ := txw_tx hw
  rw [lev_two, lev_txs _ tw na, bLev_two]
/-! ### how much a filter is; its texts are short -/
mutual
def wtD : Dt → Nat
  | .tup ds => wtL ds + 2
  | _ => 1
def wtL : List Dt → Nat
  | [] => 0
  | d :: ds => wtD d + wtL ds
end
mutual
def tshD (m : Nat) : Dt → Prop
  | .str l => l.length ≤ m
  | .tup ds => tshL m ds
  | _ => True
def tshL (m : Nat) : List Dt → Prop
  | [] => True
  | d :: ds => tshD m d ∧ tshL m ds
end
theorem tsh_mem {m : Nat} : ∀ {ds : List Dt} {d : Dt}, tshL m ds → d ∈ ds → tshD m d
  | [], _, _, m => nomatch m
  | e :: ds, d, h, m => by
    rcases List.mem_cons.mp m with rfl | m
    · exact h.1
    · exact tsh_mem h.2 m
theorem tshL_of {m : Nat} : ∀ {ds : List Dt}, (∀ d ∈ ds, tshD m d) → tshL m ds
  | [], _ => trivial
  | d :: ds, h => ⟨h d List.mem_cons_self, tshL_of fun e m => h e (List.mem_cons_of_mem _ m)⟩
mutual
theorem tsh_mono {m k : Nat} (h : m ≤ k) : ∀ (d : Dt), tshD m d → tshD k d
  | .str l, g => Nat.le_trans g h
  | .tup ds, g => tshL_mono h ds g
  | .non, _ => trivial
  | .bl _, _ => trivial
  | .int _, _ => trivial
  | .lst, _ => trivial
  | .obj, _ => trivial
theorem tshL_mono {m k : Nat} (h : m ≤ k) : ∀ (ds : List Dt), tshL m ds → tshL k ds
  | [], _ => trivial
  | d :: ds, g => ⟨tsh_mono h d g.1, tshL_mono h ds g.2⟩
end
theorem wt_mem : ∀ {ds : List Dt} {d : Dt}, d ∈ ds → wtD d ≤ wtL ds
  | [], _, m => nomatch m
  | e :: ds, d, m => by
    show wtD d ≤ wtD e + wtL ds
    rcases List.mem_cons.mp m with rfl | m
    · exact Nat.le_add_right _ _
    · exact Nat.le_trans (wt_mem m) (Nat.le_add_left _ _)
theorem wt_two (a p : Dt) : wtD (.tup [a, p]) = wtD a + wtD p + 2 := rfl
theorem wt_strs : ∀ (ys : List Txt), wtL (ys.map Dt.str) = ys.length
  | [] => rfl
  | y :: ys => by
    show 1 + wtL (ys.map Dt.str) = ys.length + 1
    rw [wt_strs ys, Nat.add_comm]
/-! ### the text beyond -/
def beyR : Txt → Option Txt
  | [] => none
  | a :: y => match beyR y with | some e => some (a :: e) | none => if a < 99 then some [a + 1] else none
theorem beyR_c : ∀ m : Txt, beyR (m ++ [99]) = beyR m
  | [] => rfl
  | a :: m => by
    show (match beyR (m ++ [99]) with | some e => some (a :: e) | none => if a < 99 then some [a + 1] else none) = _
    rw [beyR_c m]
    rfl
theorem beyR_id {c : Nat} (h : c < 99) : ∀ m : Txt, beyR (m ++ [c]) = some (m ++ [c + 1])
  | [] => if_pos h
  | a :: m => by
    show (match beyR (m ++ [c]) with | some e => some (a :: e) | none => if a < 99 then some [a + 1] else none) = _
    rw [beyR_id h m]
    rfl
theorem beyR_ok : ∀ {y e : Txt}, Abc y → beyR y = some e → Abc e ∧ e.length ≤ y.length ∧ y < e
  | [], e, _, h => by cases h
  | a :: y, e, ab, h => by
    have ha := ab a List.mem_cons_self
    have hy : Abc y := fun c m => ab c (List.mem_cons_of_mem _ m)
    have h : (match beyR y with | some e => some (a :: e) | none => if a < 99 then some [a + 1] else none) = some e := h
    cases q : beyR y with
    | some e' =>
      rw [q] at h
      cases h
      obtain ⟨h1, h2, h3⟩ := beyR_ok hy q
      refine ⟨fun c m => ?_, by simp; omega, List.cons_lt_cons_iff.mpr (.inr ⟨rfl, h3⟩)⟩
      rcases List.mem_cons.mp m with rfl | m
      · exact ha
      · exact h1 c m
    | none =>
      rw [q] at h
      by_cases c : a < 99
      · rw [if_pos c] at h
        cases h
        refine ⟨fun x m => ?_, by simp, List.cons_lt_cons_iff.mpr (.inl (Nat.lt_succ_self a))⟩
        rw [List.mem_singleton.mp m]
        omega
      · rw [if_neg c] at h
        cases h
theorem cOff_c (m : List Nat) : cOff (m ++ [99]) = cOff m := by
  rw [cOff_rev, cOff_rev, List.reverse_append]
  rfl
theorem cOff_id {m : List Nat} {c : Nat} (h : c ≠ 99) : cOff (m ++ [c]) = m ++ [c] := by
  rw [cOff_rev, List.reverse_append]
  show (List.dropWhile _ (c :: m.reverse)).reverse = _
  rw [List.dropWhile_cons, if_neg (by simpa using h), List.reverse_cons, List.reverse_reverse]
theorem bey_eq : ∀ (n : Nat) (l : Txt), l.length ≤ n → Abc l → bey l = beyR l
  | 0, l, h, _ => by
    rw [List.length_eq_zero_iff.mp (Nat.le_zero.mp h)]
    rfl
  | n + 1, l, h, al => by
    rcases List.eq_nil_or_concat l with rfl | ⟨m, c, rfl⟩
    · rfl
    rw [List.concat_eq_append] at *
    have am : Abc m := fun x q => al x (List.mem_append_left _ q)
    have hm : m.length ≤ n := by rw [List.length_append, List.length_singleton] at h; omega
    by_cases e : c = 99
    · subst e
      rw [beyR_c, ← bey_eq n m hm am]
      unfold bey
      rw [cOff_c]
    · have hc : c < 99 := by rcases al c (by simp) with q | q | q <;> omega
      rw [beyR_id hc]
      unfold bey
      rw [cOff_id e, if_neg (by simp)]
      simp
/-! ### ranges of one text -/
theorem abc_tl {c : Nat} {t : Txt} (h : Abc (c :: t)) : Abc t := fun x m => h x (List.mem_cons_of_mem _ m)
theorem snoc_le : ∀ (y w : Txt), Abc w → (y ++ [97] ≤ w ↔ y < w)
  | [], [], _ => by
    constructor
    · intro h
      exact absurd (List.nil_lt_cons 97 []) (nlt_of_le h)
    · intro h
      exact absurd h (List.lt_irrefl _)
  | [], c :: t, h => by
    refine ⟨fun _ => List.nil_lt_cons _ _, fun _ => le_of_nlt fun q => ?_⟩
    have hc := h c List.mem_cons_self
    rcases List.cons_lt_cons_iff.mp q with q | ⟨_, q⟩
    · omega
    · cases q
  | a :: y, [], _ => by
    constructor
    · intro h
      exact absurd (List.nil_lt_cons a (y ++ [97])) (nlt_of_le (show a :: (y ++ [97]) ≤ [] from h))
    · intro h
      cases h
  | a :: y, c :: t, h => by
    have ih := snoc_le y t (abc_tl h)
    constructor
    · intro g
      by_cases e : a < c
      · exact List.cons_lt_cons_iff.mpr (.inl e)
      · by_cases e2 : c < a
        · exact absurd (List.cons_lt_cons_iff.mpr (.inl e2)) (nlt_of_le g)
        · have e3 : a = c := by omega
          subst e3
          refine List.cons_lt_cons_iff.mpr (.inr ⟨rfl, ih.mp (le_of_nlt fun q => ?_)⟩)
          exact absurd (List.cons_lt_cons_iff.mpr (.inr ⟨rfl, q⟩)) (nlt_of_le g)
    · intro g
      refine le_of_nlt fun q => ?_
      rcases List.cons_lt_cons_iff.mp g with g | ⟨g1, g2⟩
      · rcases List.cons_lt_cons_iff.mp q with q | ⟨q, _⟩
        · omega
        · omega
      · subst g1
        rcases List.cons_lt_cons_iff.mp q with q | ⟨_, q⟩
        · omega
        · exact nlt_of_le (ih.mpr g2) q
theorem in_is {w y : Txt} (h : Abc w) : inP w (y, some (y ++ [97])) = decide (w = y) := by
  rw [Bool.eq_iff_iff, inP_iff, decide_eq_true_iff]
  constructor
  · rintro ⟨h1, h2⟩
    have h3 := h2 _ rfl
    refine List.le_antisymm (le_of_nlt fun q => ?_) h1
    exact nlt_of_le ((snoc_le y w h).mpr q) h3
  · rintro rfl
    refine ⟨le_self _, fun e q => ?_⟩
    cases q
    by_cases c : w < w ++ [97]
    · exact c
    · exact absurd ((snoc_le w w h).mp (le_of_nlt c)) (List.lt_irrefl _)
theorem in_above {w y : Txt} (h : Abc w) : inP w (y ++ [97], none) = decide (y < w) := by
  rw [Bool.eq_iff_iff, inP_iff, decide_eq_true_iff, ← snoc_le y w h]
  exact ⟨fun h => h.1, fun h => ⟨h, fun e q => by cases q⟩⟩
theorem cons_le {a c : Nat} {y t : Txt} : a :: y ≤ c :: t ↔ a < c ∨ (a = c ∧ y ≤ t) := by
  constructor
  · intro h
    by_cases e : a < c
    · exact .inl e
    · by_cases e2 : c < a
      · exact absurd (List.cons_lt_cons_iff.mpr (.inl e2)) (nlt_of_le h)
      · have e3 : a = c := by omega
        subst e3
        exact .inr ⟨rfl, le_of_nlt fun q => nlt_of_le h (List.cons_lt_cons_iff.mpr (.inr ⟨rfl, q⟩))⟩
  · rintro (h | ⟨rfl, h⟩)
    · exact lt_le' (List.cons_lt_cons_iff.mpr (.inl h))
    · exact le_of_nlt fun q => by
        rcases List.cons_lt_cons_iff.mp q with q | ⟨_, q⟩
        · omega
        · exact nlt_of_le h q
theorem in_begins : ∀ (y w : Txt), Abc y → Abc w → inP w (y, beyR y) = decide (w.take y.length = y)
  | [], w, _, _ => by
    rw [Bool.eq_iff_iff, inP_iff, decide_eq_true_iff]
    exact ⟨fun _ => rfl, fun _ => ⟨nil_le _, fun e q => by cases q⟩⟩
  | a :: y, [], _, _ => by
    rw [Bool.eq_iff_iff, inP_iff, decide_eq_true_iff]
    constructor
    · rintro ⟨h, _⟩
      exact absurd (List.nil_lt_cons a y) (nlt_of_le h)
    · intro h
      cases h
  | a :: y, c :: t, hy, hw => by
    have ih := in_begins y t (abc_tl hy) (abc_tl hw)
    rw [Bool.eq_iff_iff, inP_iff, decide_eq_true_iff] at ih ⊢
    have et : (c :: t).take (a :: y).length = a :: y ↔ c = a ∧ t.take y.length = y := by
      rw [List.length_cons, List.take_succ_cons]
      exact ⟨fun h => ⟨(List.cons.inj h).1, (List.cons.inj h).2⟩, fun ⟨h1, h2⟩ => by rw [h1, h2]⟩
    rw [et, ← ih]
    have ha := hy a List.mem_cons_self
    have hc := hw c List.mem_cons_self
    have eb : beyR (a :: y) = (match beyR y with | some e => some (a :: e) | none => if a < 99 then some [a + 1] else none) := rfl
    show (a :: y ≤ c :: t ∧ ∀ e, beyR (a :: y) = some e → c :: t < e) ↔ c = a ∧ y ≤ t ∧ ∀ e, beyR y = some e → t < e
    rw [cons_le, eb]
    cases q : beyR y with
    | some e =>
      constructor
      · rintro ⟨h1, h2⟩
        rcases List.cons_lt_cons_iff.mp (h2 _ rfl) with h2 | ⟨h2, h3⟩
        · exact absurd h1 (by omega)
        · subst h2
          refine ⟨rfl, ?_, fun e' he => by cases he; exact h3⟩
          rcases h1 with h1 | ⟨_, h1⟩
          · exact absurd h1 (by omega)
          · exact h1
      · rintro ⟨rfl, h1, h2⟩
        exact ⟨.inr ⟨rfl, h1⟩, fun e' he => by cases he; exact List.cons_lt_cons_iff.mpr (.inr ⟨rfl, h2 e rfl⟩)⟩
    | none =>
      by_cases l : a < 99
      · simp only [if_pos l]
        constructor
        · rintro ⟨h1, h2⟩
          rcases List.cons_lt_cons_iff.mp (h2 _ rfl) with h2 | ⟨h2, h3⟩
          · rcases h1 with h1 | ⟨h1, h3⟩
            · omega
            · exact ⟨h1.symm, h3, fun e he => by cases he⟩
          · cases h3
        · rintro ⟨rfl, h1, _⟩
          exact ⟨.inr ⟨rfl, h1⟩, fun e he => by cases he; exact List.cons_lt_cons_iff.mpr (.inl (Nat.lt_succ_self _))⟩
      · simp only [if_neg l]
        constructor
        · rintro ⟨h1, _⟩
          rcases h1 with h1 | ⟨h1, h3⟩
          · omega
          · exact ⟨h1.symm, h3, fun e he => by cases he⟩
        · rintro ⟨rfl, h1, _⟩
          exact ⟨.inr ⟨rfl, h1⟩, fun e he => by cases he⟩
/-! ### _law_in -/
theorem pr_dp {K : PySem.W.Frag} {H : Hp} {v : V} {p : Pr} (r : Rp K H v (prD p)) : Dp K H v (.tuple [.str (tx p.1), match p.2 with | none => .none | some e => .str (tx e)]) := by
  obtain ⟨a, rfl, h⟩ := rp_pr r
  refine .tup h (.cons (.str _) (.cons ?_ .nil))
  cases p.2 with
  | none => exact .non
  | some e => exact .str _
def prP (p : Pr) : PyData := .tuple [.str (tx p.1), match p.2 with | none => .none | some e => .str (tx e)]
theorem prs_dp {K : PySem.W.Frag} {H : Hp} : ∀ {vs : List V} {ps : List Pr}, RpL K H vs (ps.map prD) → DpAll K H vs (ps.map prP)
  | _, [], .nil => .nil
  | _, p :: ps, .cons r q => .cons (pr_dp r) (prs_dp q)
theorem layP {p : Pr} (h : PrS p) : PyData.canLay0 (prP p) = true := by
  obtain ⟨f, e⟩ := p
  have a := strOk_abc h.1.1
  cases e with
  | none =>
    show (PyData.canLay0 (.str (tx f)) && (PyData.canLay0 .none && true)) = true
    rw [a]
    rfl
  | some e =>
    have b := strOk_abc (h.2 e rfl).1
    show (PyData.canLay0 (.str (tx f)) && (PyData.canLay0 (.str (tx e)) && true)) = true
    rw [a, b]
    rfl
theorem layPs : ∀ {ps : List Pr}, (∀ p ∈ ps, PrS p) → PyData.canLayAll0 (ps.map prP) = true
  | [], _ => rfl
  | p :: ps, h => by
    show (PyData.canLay0 (prP p) && PyData.canLayAll0 (ps.map prP)) = true
    rw [layP (h p List.mem_cons_self), layPs fun q m => h q (List.mem_cons_of_mem _ m)]
    rfl
theorem depP (p : Pr) : PyData.depth (prP p) = 1 := by
  obtain ⟨f, e⟩ := p
  cases e <;> rfl
theorem depPs : ∀ (ps : List Pr), PyData.depthAll (ps.map prP) ≤ 1
  | [] => Nat.zero_le _
  | p :: ps => by
    show max (PyData.depth (prP p)) (PyData.depthAll (ps.map prP)) ≤ 1
    rw [depP]
    exact Nat.max_le.mpr ⟨Nat.le_refl _, depPs ps⟩
theorem shapedPs {ps : List Pr} (h : ∀ p ∈ ps, PrS p) : SeqAt.shaped (.list (ps.map prP)) = true := by
  have d := depPs ps
  unfold SeqAt.shaped
  rw [show PyData.canLay0 (.list (ps.map prP)) = true from layPs h]
  have e : PyData.depth (.list (ps.map prP)) = PyData.depthAll (ps.map prP) + 1 := rfl
  simp [e]
  omega
/-- xs != [], xs ranges -/
theorem ne_nil_prs {K : PySem.W.Frag} {H : Hp} {p q : Addr} {vs : List V} {ps : List Pr} {Q : VK} (hp : SqL K H p vs) (r : RpL K H vs (ps.map prD)) (h : ∀ p ∈ ps, PrS p) (hq : H q = some (.lst [])) (k : Q (.bl (!ps.isEmpty)) H) : rNeD K (.ref p) (.ref q) H Q := by
  refine ⟨.list (ps.map prP), .list [], .lst hp (prs_dp r), .lst (SqL.of hq) .nil, shapedPs h, rfl, ?_⟩
  have e : PyData.eqv (.list (ps.map prP)) (.list []) = ps.isEmpty := by
    cases ps with
    | nil => rfl
    | cons l ls => rfl
  rw [e]
  exact k
theorem any_filter (ps : List Pr) (w : Txt) : (!(ps.filter (inP w)).isEmpty) = inS ps w := by
  induction ps with
  | nil => rfl
  | cons p ps ih =>
    unfold inS at ih ⊢
    rw [List.any_cons, List.filter_cons]
    by_cases c : inP w p = true
    · rw [if_pos c, c]
      rfl
    · rw [if_neg c, ih, Bool.eq_false_iff.mpr c]
      rfl
abbrev s__law_pieces : Stmt := topS 53
abbrev N__law_pieces : List Str := ["points", "marks", "found", "k", "end"]
theorem sc__law_pieces : FnScope ["points", "marks", "found", "k", "end"] ["points", "marks"] (defScope s__law_pieces) := ⟨rfl, rfl, rfl, by decide +kernel, rfl, by decide +kernel, by decide +kernel⟩

/-! ### _law_pieces -/
structure LastOk (zs : List Txt) (i : Nat) (ds : List Pr) : Prop where
  no : ∀ d, ds.getLast? = some d → d.2 = none → i = zs.length
  yes : ∀ d, ds.getLast? = some d → ∀ e, d.2 = some e → ∃ j, j ≤ i ∧ zs[j]? = some e
theorem LastOk.skip {zs : List Txt} {i : Nat} {ds : List Pr} (h : LastOk zs i ds) (l : i < zs.length) : LastOk zs (i + 1) ds :=
  ⟨fun d e n => by have := h.no d e n; omega, fun d e x q => by obtain ⟨j, a, b⟩ := h.yes d e x q; exact ⟨j, by omega, b⟩⟩
theorem LastOk.next {zs : List Txt} {i : Nat} {ds : List Pr} {z : Txt} (hi : i < zs.length) : LastOk zs (i + 1) (ds ++ [(z, zs[i + 1]?)]) :=
  ⟨fun d e n => by
    rw [List.getLast?_append, List.getLast?_singleton] at e
    cases e
    have n' : zs[i + 1]? = none := n
    have := List.getElem?_eq_none_iff.mp n'
    omega, fun d e x q => by
    rw [List.getLast?_append, List.getLast?_singleton] at e
    cases e
    exact ⟨i + 1, Nat.le_refl _, q⟩⟩
theorem asc {zs : List Txt} (pw : zs.Pairwise (· < ·)) {i j : Nat} {a b : Txt} (h : i < j) (ha : zs[i]? = some a) (hb : zs[j]? = some b) : a < b := by
  obtain ⟨i1, g1⟩ := List.getElem?_eq_some_iff.mp ha
  obtain ⟨i2, g2⟩ := List.getElem?_eq_some_iff.mp hb
  have := List.pairwise_iff_getElem.mp pw i j i1 i2 h
  rwa [g1, g2] at this
theorem grow_new {zs : List Txt} {ds : List Pr} {i : Nat} {z : Txt} (pw : zs.Pairwise (· < ·)) (sh : ∀ z ∈ zs, Short z) (ok : SpOk ds) (la : LastOk zs i ds) (hz : zs[i]? = some z) (ne : ∀ d, ds.getLast? = some d → d.2 ≠ some z) : SpOk (ds ++ [(z, zs[i + 1]?)]) := by
  have hi := (List.getElem?_eq_some_iff.mp hz).1
  refine ⟨fun p m => ?_, List.pairwise_append.mpr ⟨ok.gap, List.pairwise_singleton _ _, fun p mp q mq => ?_⟩⟩
  · rcases List.mem_append.mp m with m | m
    · exact ok.ok p m
    · rw [List.mem_singleton.mp m]
      exact ⟨sh z (List.mem_of_getElem? hz), fun e q => ⟨sh e (List.mem_of_getElem? q), asc pw (Nat.lt_succ_self i) hz q⟩⟩
  · rw [List.mem_singleton.mp mq]
    rcases List.eq_nil_or_concat ds with rfl | ⟨d0, d, rfl⟩
    · cases mp
    rw [List.concat_eq_append] at *
    have gl : (d0 ++ [d]).getLast? = some d := by rw [List.getLast?_append, List.getLast?_singleton]; rfl
    obtain ⟨e, e1, e2⟩ : Gap d (z, zs[i + 1]?) := by
      cases q : d.2 with
      | none =>
        have := la.no d gl q
        omega
      | some e =>
        obtain ⟨j, j1, j2⟩ := la.yes d gl e q
        refine ⟨e, q, ?_⟩
        rcases Nat.lt_or_eq_of_le j1 with j1 | rfl
        · exact asc pw j1 j2 hz
        · rw [hz] at j2
          cases j2
          exact absurd q (ne d gl)
    rcases List.mem_append.mp mp with mp | mp
    · obtain ⟨e', f1, f2⟩ := (List.pairwise_append.mp ok.gap).2.2 p mp d List.mem_cons_self
      exact ⟨e', f1, List.lt_trans f2 (List.lt_trans ((ok.ok d (by simp)).2 e e1).2 e2)⟩
    · rw [List.mem_singleton.mp mp]
      exact ⟨e, e1, e2⟩
theorem grow_old {zs : List Txt} {d0 : List Pr} {d : Pr} {i : Nat} {z : Txt} (pw : zs.Pairwise (· < ·)) (sh : ∀ z ∈ zs, Short z) (ok : SpOk (d0 ++ [d])) (hz : zs[i]? = some z) (e : d.2 = some z) : SpOk (d0 ++ [(d.1, zs[i + 1]?)]) := by
  have od := ok.ok d (by simp)
  refine ⟨fun p m => ?_, List.pairwise_append.mpr ⟨(List.pairwise_append.mp ok.gap).1, List.pairwise_singleton _ _, fun p mp q mq => ?_⟩⟩
  · rcases List.mem_append.mp m with m | m
    · exact ok.ok p (List.mem_append_left _ m)
    · rw [List.mem_singleton.mp m]
      exact ⟨od.1, fun e' q => ⟨sh e' (List.mem_of_getElem? q), List.lt_trans (od.2 z e).2 (asc pw (Nat.lt_succ_self i) hz q)⟩⟩
  · rw [List.mem_singleton.mp mq]
    obtain ⟨e', f1, f2⟩ := (List.pairwise_append.mp ok.gap).2.2 p mp d List.mem_cons_self
    exact ⟨e', f1, f2⟩
/-- what the pieces have: behind each point just what is marked there -/
structure Mem (zs : List Txt) (bs : List Bool) (i : Nat) (ds : List Pr) : Prop where
  yes : ∀ j z b w, j < i → zs[j]? = some z → bs[j]? = some b → z ≤ w → (∀ z', zs[j + 1]? = some z' → w < z') → inS ds w = b
  out : ∀ z w, zs[i]? = some z → z ≤ w → inS ds w = false
theorem Mem.nil {zs : List Txt} {bs : List Bool} : Mem zs bs 0 [] := ⟨fun _ _ _ _ h => absurd h (Nat.not_lt_zero _), fun _ _ _ _ => rfl⟩
theorem Mem.skip {zs : List Txt} {bs : List Bool} {i : Nat} {ds : List Pr} (pw : zs.Pairwise (· < ·)) (m : Mem zs bs i ds) {z : Txt} (hz : zs[i]? = some z) (hb : bs[i]? = some false) : Mem zs bs (i + 1) ds := by
  refine ⟨fun j z' b w hj h1 h2 h3 h4 => ?_, fun z' w h1 h2 => ?_⟩
  · rcases Nat.lt_or_eq_of_le (Nat.lt_succ_iff.mp hj) with q | rfl
    · exact m.yes j z' b w q h1 h2 h3 h4
    · rw [hb] at h2
      cases h2
      exact m.out z' w h1 h3
  · exact m.out z w hz (lt_le' (lt_le (asc pw (Nat.lt_succ_self i) hz h1) h2))
theorem Mem.grow {zs : List Txt} {bs : List Bool} {i : Nat} {ds ds' : List Pr} (pw : zs.Pairwise (· < ·)) (m : Mem zs bs i ds) {z : Txt} (hz : zs[i]? = some z) (hb : bs[i]? = some true)
    (lo : ∀ w, w < z → inS ds' w = inS ds w) (hi : ∀ w, z ≤ w → (inS ds' w = true ↔ ∀ z', zs[i + 1]? = some z' → w < z')) : Mem zs bs (i + 1) ds' := by
  refine ⟨fun j z' b w hj h1 h2 h3 h4 => ?_, fun z' w h1 h2 => ?_⟩
  · rcases Nat.lt_or_eq_of_le (Nat.lt_succ_iff.mp hj) with q | rfl
    · have lt : w < z := by
        have hl : j + 1 < zs.length := by have := (List.getElem?_eq_some_iff.mp hz).1; omega
        have e := List.getElem?_eq_getElem hl
        have a := h4 _ e
        rcases Nat.lt_or_eq_of_le q with c | c
        · exact List.lt_trans a (asc pw c e hz)
        · have c : j + 1 = i := c
          subst c
          rw [hz] at e
          cases e
          exact a
      rw [lo w lt]
      exact m.yes j z' b w q h1 h2 h3 h4
    · rw [hb] at h2
      cases h2
      rw [hz] at h1
      cases h1
      exact (hi w h3).mpr h4
  · rw [Bool.eq_false_iff]
    intro c
    exact List.lt_irrefl _ (lt_le ((hi w (lt_le' (lt_le (asc pw (Nat.lt_succ_self i) hz h1) h2))).mp c z' h1) h2)
theorem Mem.new {zs : List Txt} {bs : List Bool} {i : Nat} {ds : List Pr} (pw : zs.Pairwise (· < ·)) (m : Mem zs bs i ds) {z : Txt} (hz : zs[i]? = some z) (hb : bs[i]? = some true) : Mem zs bs (i + 1) (ds ++ [(z, zs[i + 1]?)]) := by
  refine m.grow pw hz hb (fun w l => ?_) (fun w l => ?_)
  · rw [inS_app, inS_cons, inP_low l]
    show (inS ds w || (false || false)) = _
    simp
  · rw [inS_app, inS_cons, m.out z w hz l, Bool.false_or]
    show (inP w (z, zs[i + 1]?) || false) = true ↔ _
    rw [Bool.or_false, inP_iff]
    exact ⟨fun h => h.2, fun h => ⟨l, h⟩⟩
theorem Mem.old {zs : List Txt} {bs : List Bool} {i : Nat} {d0 : List Pr} {d : Pr} (pw : zs.Pairwise (· < ·)) (m : Mem zs bs i (d0 ++ [d])) {z : Txt} (hz : zs[i]? = some z) (hb : bs[i]? = some true) (e : d.2 = some z) (lt : d.1 < z) : Mem zs bs (i + 1) (d0 ++ [(d.1, zs[i + 1]?)]) := by
  refine m.grow pw hz hb (fun w l => ?_) (fun w l => ?_)
  · rw [inS_app, inS_app]
    congr 1
    rw [inS_cons, inS_cons]
    congr 1
    rw [Bool.eq_iff_iff, inP_iff, inP_iff]
    constructor
    · exact fun h => ⟨h.1, fun e' he => by rw [e] at he; cases he; exact l⟩
    · exact fun h => ⟨h.1, fun e' he => List.lt_trans l (asc pw (Nat.lt_succ_self i) hz he)⟩
  · have o := m.out z w hz l
    rw [inS_app, Bool.or_eq_false_iff] at o
    rw [inS_app, o.1, Bool.false_or, inS_cons]
    show (inP w (d.1, zs[i + 1]?) || false) = true ↔ _
    rw [Bool.or_false, inP_iff]
    exact ⟨fun h => h.2, fun h => ⟨lt_le' (lt_le lt l), h⟩⟩
theorem rpl_set {K : PySem.W.Frag} {H : Hp} : ∀ {vs : List V} {ds : List Dt} {j : Nat} {v : V} {d : Dt}, RpL K H vs ds → Rp K H v d → RpL K H (vs.set j v) (ds.set j d)
  | _, [], _, _, _, .nil, _ => .nil
  | _, _ :: _, 0, _, _, .cons _ r, h => .cons h r
  | _, _ :: _, j + 1, _, _, .cons a r, h => .cons a (rpl_set (j := j) r h)
def spPieces (K : PySem.W.Frag) : Sp := fun vs H Q _ => ∃ (p m : Addr) (zs : List Txt) (bs : List Bool), vs = [.ref p, .ref m] ∧ H p = some (.lst (zs.map Tx)) ∧ H m = some (.lst (bs.map V.bl)) ∧ bs.length = zs.length ∧ zs.Pairwise (· < ·) ∧ (∀ z ∈ zs, Short z) ∧ zs.length ≤ 401 ∧
  ∀ b ps H', Stp [] H H' → Spn K H' b ps → ps.length ≤ 401 → Mem zs bs zs.length ps → Q (.ref b) H'
theorem cl__law_pieces {f : Addr} {fd : FuncData} (D : Df K mg "_law_pieces" s__law_pieces ["points", "marks"] f fd) (T : Nm mg) : Cl P w K mg base 1 "_law_pieces" s__law_pieces ["points", "marks"] (spPieces K) := by
  refine D.cl sc__law_pieces (fun vs H Q E h => ?_) (fun cdv A outer s H vs Q E hr h => ?_)
  · obtain ⟨p, m, zs, bs, rfl, _⟩ := h
    rfl
  · obtain ⟨p, m, zs, bs, rfl, hp, hm, lb, pw, sh, few, k⟩ := h
    refine ⟨_, (pss_cons (ps_set (i := 2) sc__law_pieces.nd rfl (by first | exact Or.inl rfl | exact Or.inr rfl) (pe_lst pa_nil))
      (pss_cons (ps_for PassesOwn.never rfl (pi_range1 (by rfl) T.n_range (pa_cons (pe_callB call_len_seq (by rfl) T.n_len (by decide +kernel) (pa_cons (pv 0) pa_nil)) pa_nil)) (pg_name (i := 3) sc__law_pieces.nd rfl (by first | exact Or.inl rfl | exact Or.inr rfl)) (pss_one (ps_if (pt_val (pe_ix ix_list (pv 1) (pv 3) (fun _ _ => rfl))) (pss_cons (ps_set (i := 4) sc__law_pieces.nd rfl (by first | exact Or.inl rfl | exact Or.inr rfl) (pe_ifExp (pt_cmpR op_lt (pe_op op_add (pv 3) pe_int) (pe_callB call_len_seq (by rfl) T.n_len (by decide +kernel) (pa_cons (pv 0) pa_nil)) (by first | exact nomark _ | rfl)) (pe_ix ix_list (pv 0) (pe_op op_add (pv 3) pe_int) (fun _ _ => rfl)) pe_non))
      (pss_one (ps_if (PW.pt (pw_and (pt_cmpR (op_neD hr.units) (pv 2) (pe_lst pa_nil) (by first | exact nomark _ | rfl)) (pw_and1 (pt_cmpR op_eq (pe_ix ix_tup (pe_ix ix_list (pv 2) (pe_op op_sub (pe_callB call_len_seq (by rfl) T.n_len (by decide +kernel) (pa_cons (pv 2) pa_nil)) pe_int) (fun _ _ => rfl)) pe_int (fun _ _ => rfl)) (pe_ix ix_list (pv 0) (pv 3) (fun _ _ => rfl)) (by first | exact nomark _ | rfl))))) (pss_one (ps_asg (pe_tup (pa_cons (pe_ix ix_tup (pe_ix ix_list (pv 2) (pe_op op_sub (pe_callB call_len_seq (by rfl) T.n_len (by decide +kernel) (pa_cons (pv 2) pa_nil)) pe_int) (fun _ _ => rfl)) pe_int (fun _ _ => rfl)) (pa_cons (pv 4) pa_nil))) (pg_sub (pv 2) (pe_op op_sub (pe_callB call_len_seq (by rfl) T.n_len (by decide +kernel) (pa_cons (pv 2) pa_nil)) pe_int) set_list))) (pss_one (ps_expr (pe_bm PySem.F.plainAttrs_list PySem.F.slot_list_append PySem.F.type_list_append mt_append (pv 2) (pa_cons (pe_tup (pa_cons (pe_ix ix_list (pv 0) (pv 3) (fun _ _ => rfl)) (pa_cons (pv 4) pa_nil))) pa_nil))))))) pss_nil)))
      (pss_one (ps_ret (pe_callTy call_tuple_of (by rfl) T.n_tuple (by decide +kernel) (pa_cons (pv 2) pa_nil)))))), ?_⟩
    refine ⟨Nat.zero_le _, fun F nF => ?_⟩
    have S0 : Stp [] H (upd H F (.lst [])) := Stp.new nF _
    refine ⟨_, rfl, p, _, rfl, .inl (SqL.of (S0.kp _ _ (fun m => nomatch m) hp)), _, rfl, ?_⟩
    rw [List.length_map]
    refine ⟨by omega, by omega, for_range (lo := 0) (n := zs.length) (fun i σ H2 => ∃ (ds : List Pr) (vs : List V) (x3 x4 : Option V), σ = [some (.ref p), some (.ref m), some (.ref F), x3, x4] ∧ H2 F = some (.lst vs) ∧ RpL K H2 vs (ds.map prD) ∧ SpOk ds ∧ ds.length ≤ i ∧ LastOk zs i ds ∧ Mem zs bs i ds ∧ Stp [] H H2)
      ⟨[], [], _, _, rfl, upd_same, .nil, .nil, Nat.zero_le _, ⟨fun d e => (by cases e), fun d e => (by cases e)⟩, Mem.nil, S0⟩ ?_ ?_⟩
    · rintro i σ H2 hi ⟨ds, vs, x3, x4, rfl, hF, rd, ok, ld, la, me, S⟩
      have hp2 : H2 p = some (.lst (zs.map Tx)) := S.kp _ _ (fun m => nomatch m) hp
      have hm2 : H2 m = some (.lst (bs.map V.bl)) := S.kp _ _ (fun m => nomatch m) hm
      obtain ⟨b, hb⟩ : ∃ b, bs[i]? = some b := ⟨bs[i]'(by omega), List.getElem?_eq_getElem _⟩
      obtain ⟨z, hz⟩ : ∃ z, zs[i]? = some z := ⟨zs[i]'(by omega), List.getElem?_eq_getElem _⟩
      have z0 : (0 : Int) + (i : Int) = (i : Int) := Int.zero_add _
      have ab : atI (bs.map V.bl) (0 + (i : Int)) = some (.bl b) := by
        rw [z0]
        exact atI_nat (by rw [List.getElem?_map, hb]; rfl)
      have az : atI (zs.map Tx) (0 + (i : Int)) = some (Tx z) := by
        rw [z0]
        exact atI_nat (by rw [List.getElem?_map, hz]; rfl)
      refine ⟨_, rfl, _, rfl, m, _, _, .bl b, rfl, rfl, SqL.of hm2, ab, b, rfl, ite2 (fun h => ?_) (fun h => ?_)⟩
      · have hbt : bs[i]? = some true := by rw [hb, h]
        refine ⟨_, rfl, _, _, rfl, rfl, _, rfl, p, _, rfl, .inl (SqL.of hp2), _, _, rfl, rfl, _, rfl, ite2 (fun h1 => ?_) (fun h1 => ?_)⟩
        · have h1 : (0 + (i : Int)) + 1 < (zs.length : Int) := by
            have := of_decide_eq_true h1
            rwa [List.length_map] at this
          obtain ⟨en, hen⟩ : ∃ en, en = zs[i + 1]? := ⟨_, rfl⟩
          have ae : atI (zs.map Tx) (0 + (i : Int) + 1) = some (oV en) := by
            rw [z0]
            have hl : i + 1 < zs.length := by omega
            have e2 : zs[i + 1]? = some zs[i + 1] := List.getElem?_eq_getElem hl
            rw [hen, e2]
            exact atI_nat (j := i + 1) (by rw [List.getElem?_map, e2]; rfl)
          refine ⟨_, rfl, _, rfl, _, _, rfl, rfl, p, _, _, oV en, rfl, rfl, SqL.of hp2, ae, ?_⟩
          refine ⟨_, rfl, Nat.zero_le _, fun q nq => ?_⟩
          have qF : F ≠ q := ne_of_none hF nq
          have S3 : Stp [] H2 (upd H2 q (.lst [])) := Stp.new nq _
          refine ne_nil_prs (SqL.of (Eq.trans (upd_ne qF) hF)) (rd.stp S3 Lsts.nil) (fun p m => (ok.ok p m).s) upd_same ?_
          have hF3 : (upd H2 q (.lst [])) F = some (.lst vs) := Eq.trans (upd_ne qF) hF
          have hp3 : (upd H2 q (.lst [])) p = some (.lst (zs.map Tx)) := S3.kp _ _ (fun m => nomatch m) hp2
          have rd3 := rd.stp S3 Lsts.nil
          have SS := S.trans S3
          have len2 : (2 : Nat) ≤ sizeLine := by decide
          have lv : vs.length < sizeLine := by
            rw [rd.len, List.length_map]
            exact Nat.lt_of_le_of_lt (show ds.length ≤ 1000 by omega) (by decide)
          refine ⟨_, rfl, ?_⟩
          rcases List.eq_nil_or_concat ds with rfl | ⟨d0, d, rfl⟩
          · refine ite2 (fun h => absurd h (by simp)) (fun _ => ?_)
            refine ite2 (fun h => (nomatch h)) (fun _ => ?_)
            refine ⟨_, rfl, .inl ⟨rfl, _, SqL.of hF3⟩, _, rfl, _, rfl, p, _, _, Tx z, rfl, rfl, SqL.of hp3, az, _, rfl, len2, fun t2 nt2 => ?_⟩
            have nF2 : F ≠ t2 := ne_of_none hF3 nt2
            refine ⟨F, _, _, rfl, rfl, Eq.trans (upd_ne nF2) hF3, lv, ?_⟩
            refine ⟨[] ++ [(z, zs[i + 1]?)], vs ++ [.ref t2], _, _, rfl, upd_same, ?_, grow_new pw sh ok la hz (fun d e => by cases e), by first | (simp; done) | (simp at ld ⊢; omega), LastOk.next hi, Mem.new pw me hz hbt, (SS.new' nt2).mut nF⟩
            have s4 : Stp [F] (upd (upd H2 q (.lst [])) t2 (.tup [Tx z, oV en])) (upd (upd (upd H2 q (.lst [])) t2 (.tup [Tx z, oV en])) F (.lst (vs ++ [.ref t2]))) := Stp.put (by simp)
            refine prs_one ((rd3.stp (Stp.new nt2 _) Lsts.nil).stp s4 (.one (Eq.trans (upd_ne nF2) hF3))) (pr_rp (p := (z, zs[i + 1]?)) (SqT.of ?_) (sh z (List.mem_of_getElem? hz)).2 fun e q => (sh e (List.mem_of_getElem? q)).2)
            rw [upd_ne nF2.symm, upd_same, hen]
          · rw [List.concat_eq_append] at *
            have gl : (d0 ++ [d]).getLast? = some d := by rw [List.getLast?_append, List.getLast?_singleton]; rfl
            have lvs : vs.length = d0.length + 1 := by rw [rd.len, List.length_map, List.length_append]; rfl
            obtain ⟨v, hv0⟩ : ∃ v, vs[d0.length]? = some v := ⟨vs[d0.length]'(by omega), List.getElem?_eq_getElem _⟩
            obtain ⟨d', hd', t, rfl, ht⟩ := prs_get rd3 hv0
            obtain rfl : d = d' := by
              rw [List.getElem?_append_right (Nat.le_refl _), Nat.sub_self] at hd'
              exact Option.some.inj hd'
            have ix : ((vs.length : Nat) : Int) - 1 = ((d0.length : Nat) : Int) := by omega
            have al : atI vs (((vs.length : Nat) : Int) - 1) = some (.ref t) := by
              rw [ix]
              exact atI_nat hv0
            refine ite2 (fun _ => ?_) (fun h => absurd (by simp) h)
            refine ⟨_, rfl, _, rfl, F, _, rfl, .inl (SqL.of hF3), _, _, rfl, rfl, F, _, _, .ref t, rfl, rfl, SqL.of hF3, al, t, _, 1, oV d.2, rfl, rfl, ht, at1, _, rfl, _, rfl, p, _, _, Tx z, rfl, rfl, SqL.of hp3, az, ?_, _, rfl, ite2 (fun h => ?_) (fun h => ?_)⟩
            · cases d.2 <;> rfl
            · have h2 : d.2 = some z := by
                have := of_decide_eq_true h
                cases q : d.2 with
                | none =>
                  rw [q] at this
                  cases this
                | some e =>
                  rw [q] at this
                  exact congrArg some (tx_inj (V.str.inj this))
              refine ⟨_, rfl, _, rfl, F, _, rfl, .inl (SqL.of hF3), _, _, rfl, rfl, F, _, _, .ref t, rfl, rfl, SqL.of hF3, al, t, _, 0, Tx d.1, rfl, rfl, ht, at0, _, rfl, len2, fun t2 nt2 => ?_⟩
              have nF2 : F ≠ t2 := ne_of_none hF3 nt2
              have hF4 : (upd (upd H2 q (.lst [])) t2 (.tup [Tx d.1, oV en])) F = some (.lst vs) := Eq.trans (upd_ne nF2) hF3
              have ixn : ixN vs.length (((vs.length : Nat) : Int) - 1) = some d0.length := by
                rw [ix]
                unfold ixN
                rw [if_pos (by omega), lvs]
                simp
                omega
              refine ⟨_, rfl, _, rfl, F, _, rfl, .inl (SqL.of hF4), _, _, rfl, rfl, F, _, _, d0.length, rfl, rfl, hF4, ixn, ?_⟩
              refine ⟨d0 ++ [(d.1, zs[i + 1]?)], vs.set d0.length (.ref t2), _, _, rfl, upd_same, ?_, grow_old pw sh ok hz h2, by simp at ld ⊢; omega, LastOk.next hi, Mem.old pw me hz hbt h2 ((ok.ok d (by simp)).2 z h2).2, (SS.new' nt2).mut nF⟩
              have s4 : Stp [F] (upd (upd H2 q (.lst [])) t2 (.tup [Tx d.1, oV en])) (upd (upd (upd H2 q (.lst [])) t2 (.tup [Tx d.1, oV en])) F (.lst (vs.set d0.length (.ref t2)))) := Stp.put (by simp)
              have od := ok.ok d (by simp)
              have e5 : ((d0 ++ [(d.1, zs[i + 1]?)]).map prD) = (((d0 ++ [d]).map prD).set d0.length (prD (d.1, zs[i + 1]?))) := by
                rw [List.map_append, List.map_append, List.set_append_right _ _ (by simp)]
                simp
              rw [e5]
              refine rpl_set ((rd3.stp (Stp.new nt2 _) Lsts.nil).stp s4 (.one hF4)) (pr_rp (p := (d.1, zs[i + 1]?)) (SqT.of ?_) od.1.2 fun e q => (sh e (List.mem_of_getElem? q)).2)
              rw [upd_ne nF2.symm, upd_same, hen]
            · refine ⟨_, rfl, .inl ⟨rfl, _, SqL.of hF3⟩, _, rfl, _, rfl, p, _, _, Tx z, rfl, rfl, SqL.of hp3, az, _, rfl, len2, fun t2 nt2 => ?_⟩
              have nF2 : F ≠ t2 := ne_of_none hF3 nt2
              refine ⟨F, _, _, rfl, rfl, Eq.trans (upd_ne nF2) hF3, lv, ?_⟩
              refine ⟨(d0 ++ [d]) ++ [(z, zs[i + 1]?)], vs ++ [.ref t2], _, _, rfl, upd_same, ?_, grow_new pw sh ok la hz (fun d1 e q => by
                rw [gl] at e
                cases e
                exact h (decide_eq_true (by rw [q]; rfl))), by rw [List.length_append]; simp; simp at ld; omega, LastOk.next hi, Mem.new pw me hz hbt, (SS.new' nt2).mut nF⟩
              have s4 : Stp [F] (upd (upd H2 q (.lst [])) t2 (.tup [Tx z, oV en])) (upd (upd (upd H2 q (.lst [])) t2 (.tup [Tx z, oV en])) F (.lst (vs ++ [.ref t2]))) := Stp.put (by simp)
              refine prs_one ((rd3.stp (Stp.new nt2 _) Lsts.nil).stp s4 (.one (Eq.trans (upd_ne nF2) hF3))) (pr_rp (p := (z, zs[i + 1]?)) (SqT.of ?_) (sh z (List.mem_of_getElem? hz)).2 fun e q => (sh e (List.mem_of_getElem? q)).2)
              rw [upd_ne nF2.symm, upd_same, hen]
        · have h1 : ¬ (0 + (i : Int)) + 1 < (zs.length : Int) := fun q => h1 (decide_eq_true (by rw [List.length_map]; exact q))
          obtain ⟨en, hen⟩ : ∃ en, en = zs[i + 1]? := ⟨_, rfl⟩
          have hv : V.non = oV en := by
            rw [hen, List.getElem?_eq_none_iff.mpr (by omega)]
            rfl
          rw [hv]
          refine ⟨_, rfl, Nat.zero_le _, fun q nq => ?_⟩
          have qF : F ≠ q := ne_of_none hF nq
          have S3 : Stp [] H2 (upd H2 q (.lst [])) := Stp.new nq _
          refine ne_nil_prs (SqL.of (Eq.trans (upd_ne qF) hF)) (rd.stp S3 Lsts.nil) (fun p m => (ok.ok p m).s) upd_same ?_
          have hF3 : (upd H2 q (.lst [])) F = some (.lst vs) := Eq.trans (upd_ne qF) hF
          have hp3 : (upd H2 q (.lst [])) p = some (.lst (zs.map Tx)) := S3.kp _ _ (fun m => nomatch m) hp2
          have rd3 := rd.stp S3 Lsts.nil
          have SS := S.trans S3
          have len2 : (2 : Nat) ≤ sizeLine := by decide
          have lv : vs.length < sizeLine := by
            rw [rd.len, List.length_map]
            exact Nat.lt_of_le_of_lt (show ds.length ≤ 1000 by omega) (by decide)
          refine ⟨_, rfl, ?_⟩
          rcases List.eq_nil_or_concat ds with rfl | ⟨d0, d, rfl⟩
          · refine ite2 (fun h => absurd h (by simp)) (fun _ => ?_)
            refine ite2 (fun h => (nomatch h)) (fun _ => ?_)
            refine ⟨_, rfl, .inl ⟨rfl, _, SqL.of hF3⟩, _, rfl, _, rfl, p, _, _, Tx z, rfl, rfl, SqL.of hp3, az, _, rfl, len2, fun t2 nt2 => ?_⟩
            have nF2 : F ≠ t2 := ne_of_none hF3 nt2
            refine ⟨F, _, _, rfl, rfl, Eq.trans (upd_ne nF2) hF3, lv, ?_⟩
            refine ⟨[] ++ [(z, zs[i + 1]?)], vs ++ [.ref t2], _, _, rfl, upd_same, ?_, grow_new pw sh ok la hz (fun d e => by cases e), by first | (simp; done) | (simp at ld ⊢; omega), LastOk.next hi, Mem.new pw me hz hbt, (SS.new' nt2).mut nF⟩
            have s4 : Stp [F] (upd (upd H2 q (.lst [])) t2 (.tup [Tx z, oV en])) (upd (upd (upd H2 q (.lst [])) t2 (.tup [Tx z, oV en])) F (.lst (vs ++ [.ref t2]))) := Stp.put (by simp)
            refine prs_one ((rd3.stp (Stp.new nt2 _) Lsts.nil).stp s4 (.one (Eq.trans (upd_ne nF2) hF3))) (pr_rp (p := (z, zs[i + 1]?)) (SqT.of ?_) (sh z (List.mem_of_getElem? hz)).2 fun e q => (sh e (List.mem_of_getElem? q)).2)
            rw [upd_ne nF2.symm, upd_same, hen]
          · rw [List.concat_eq_append] at *
            have gl : (d0 ++ [d]).getLast? = some d := by rw [List.getLast?_append, List.getLast?_singleton]; rfl
            have lvs : vs.length = d0.length + 1 := by rw [rd.len, List.length_map, List.length_append]; rfl
            obtain ⟨v, hv0⟩ : ∃ v, vs[d0.length]? = some v := ⟨vs[d0.length]'(by omega), List.getElem?_eq_getElem _⟩
            obtain ⟨d', hd', t, rfl, ht⟩ := prs_get rd3 hv0
            obtain rfl : d = d' := by
              rw [List.getElem?_append_right (Nat.le_refl _), Nat.sub_self] at hd'
              exact Option.some.inj hd'
            have ix : ((vs.length : Nat) : Int) - 1 = ((d0.length : Nat) : Int) := by omega
            have al : atI vs (((vs.length : Nat) : Int) - 1) = some (.ref t) := by
              rw [ix]
              exact atI_nat hv0
            refine ite2 (fun _ => ?_) (fun h => absurd (by simp) h)
            refine ⟨_, rfl, _, rfl, F, _, rfl, .inl (SqL.of hF3), _, _, rfl, rfl, F, _, _, .ref t, rfl, rfl, SqL.of hF3, al, t, _, 1, oV d.2, rfl, rfl, ht, at1, _, rfl, _, rfl, p, _, _, Tx z, rfl, rfl, SqL.of hp3, az, ?_, _, rfl, ite2 (fun h => ?_) (fun h => ?_)⟩
            · cases d.2 <;> rfl
            · have h2 : d.2 = some z := by
                have := of_decide_eq_true h
                cases q : d.2 with
                | none =>
                  rw [q] at this
                  cases this
                | some e =>
                  rw [q] at this
                  exact congrArg some (tx_inj (V.str.inj this))
              refine ⟨_, rfl, _, rfl, F, _, rfl, .inl (SqL.of hF3), _, _, rfl, rfl, F, _, _, .ref t, rfl, rfl, SqL.of hF3, al, t, _, 0, Tx d.1, rfl, rfl, ht, at0, _, rfl, len2, fun t2 nt2 => ?_⟩
              have nF2 : F ≠ t2 := ne_of_none hF3 nt2
              have hF4 : (upd (upd H2 q (.lst [])) t2 (.tup [Tx d.1, oV en])) F = some (.lst vs) := Eq.trans (upd_ne nF2) hF3
              have ixn : ixN vs.length (((vs.length : Nat) : Int) - 1) = some d0.length := by
                rw [ix]
                unfold ixN
                rw [if_pos (by omega), lvs]
                simp
                omega
              refine ⟨_, rfl, _, rfl, F, _, rfl, .inl (SqL.of hF4), _, _, rfl, rfl, F, _, _, d0.length, rfl, rfl, hF4, ixn, ?_⟩
              refine ⟨d0 ++ [(d.1, zs[i + 1]?)], vs.set d0.length (.ref t2), _, _, rfl, upd_same, ?_, grow_old pw sh ok hz h2, by simp at ld ⊢; omega, LastOk.next hi, Mem.old pw me hz hbt h2 ((ok.ok d (by simp)).2 z h2).2, (SS.new' nt2).mut nF⟩
              have s4 : Stp [F] (upd (upd H2 q (.lst [])) t2 (.tup [Tx d.1, oV en])) (upd (upd (upd H2 q (.lst [])) t2 (.tup [Tx d.1, oV en])) F (.lst (vs.set d0.length (.ref t2)))) := Stp.put (by simp)
              have od := ok.ok d (by simp)
              have e5 : ((d0 ++ [(d.1, zs[i + 1]?)]).map prD) = (((d0 ++ [d]).map prD).set d0.length (prD (d.1, zs[i + 1]?))) := by
                rw [List.map_append, List.map_append, List.set_append_right _ _ (by simp)]
                simp
              rw [e5]
              refine rpl_set ((rd3.stp (Stp.new nt2 _) Lsts.nil).stp s4 (.one hF4)) (pr_rp (p := (d.1, zs[i + 1]?)) (SqT.of ?_) od.1.2 fun e q => (sh e (List.mem_of_getElem? q)).2)
              rw [upd_ne nF2.symm, upd_same, hen]
            · refine ⟨_, rfl, .inl ⟨rfl, _, SqL.of hF3⟩, _, rfl, _, rfl, p, _, _, Tx z, rfl, rfl, SqL.of hp3, az, _, rfl, len2, fun t2 nt2 => ?_⟩
              have nF2 : F ≠ t2 := ne_of_none hF3 nt2
              refine ⟨F, _, _, rfl, rfl, Eq.trans (upd_ne nF2) hF3, lv, ?_⟩
              refine ⟨(d0 ++ [d]) ++ [(z, zs[i + 1]?)], vs ++ [.ref t2], _, _, rfl, upd_same, ?_, grow_new pw sh ok la hz (fun d1 e q => by
                rw [gl] at e
                cases e
                exact h (decide_eq_true (by rw [q]; rfl))), by rw [List.length_append]; simp; simp at ld; omega, LastOk.next hi, Mem.new pw me hz hbt, (SS.new' nt2).mut nF⟩
              have s4 : Stp [F] (upd (upd H2 q (.lst [])) t2 (.tup [Tx z, oV en])) (upd (upd (upd H2 q (.lst [])) t2 (.tup [Tx z, oV en])) F (.lst (vs ++ [.ref t2]))) := Stp.put (by simp)
              refine prs_one ((rd3.stp (Stp.new nt2 _) Lsts.nil).stp s4 (.one (Eq.trans (upd_ne nF2) hF3))) (pr_rp (p := (z, zs[i + 1]?)) (SqT.of ?_) (sh z (List.mem_of_getElem? hz)).2 fun e q => (sh e (List.mem_of_getElem? q)).2)
              rw [upd_ne nF2.symm, upd_same, hen]
      · exact ⟨ds, vs, _, _, rfl, hF, rd, ok, by omega, la.skip hi, me.skip pw hz (by rw [hb, Bool.eq_false_iff.mpr h]), S⟩
    · rintro σ H2 ⟨ds, vs, x3, x4, rfl, hF, rd, ok, ld, la, me, S⟩
      refine ⟨_, rfl, F, _, rfl, .inl ⟨SqL.of hF, fun b nb => ?_⟩⟩
      exact k b ds _ (S.new' nb) ⟨⟨vs, SqT.of upd_same, rd.stp (Stp.new nb _) Lsts.nil⟩, ok, by omega⟩ (by omega) me
abbrev s_check_ranges : Stmt := topS 14
abbrev N_check_ranges : List Str := ["ranges", "part"]
theorem sc_check_ranges : FnScope ["ranges", "part"] ["ranges"] (defScope s_check_ranges) := ⟨rfl, rfl, rfl, by decide +kernel, rfl, by decide +kernel, by decide +kernel⟩

abbrev s_later_end : Stmt := topS 17
abbrev N_later_end : List Str := ["end", "other_end"]
theorem sc_later_end : FnScope ["end", "other_end"] ["end", "other_end"] (defScope s_later_end) := ⟨rfl, rfl, rfl, by decide +kernel, rfl, by decide +kernel, by decide +kernel⟩

abbrev s_ascending : Stmt := topS 18
abbrev N_ascending : List Str := ["texts", "text"]
theorem sc_ascending : FnScope ["texts", "text"] ["texts"] (defScope s_ascending) := ⟨rfl, rfl, rfl, by decide +kernel, rfl, by decide +kernel, by decide +kernel⟩

abbrev s_span_of : Stmt := topS 19
abbrev N_span_of : List Str := ["ranges", "ends", "first", "end", "parts"]
theorem sc_span_of : FnScope ["ranges", "ends", "first", "end", "parts"] ["ranges"] (defScope s_span_of) := ⟨rfl, rfl, rfl, by decide +kernel, rfl, by decide +kernel, by decide +kernel⟩

/-! ### the span of some ranges -/
def reachB : Option Txt → Txt → Bool
  | none, _ => true
  | some e, f => !decide (e < f)
def spReachesG : Sp := fun vs H Q _ => ∃ (e : Option Txt) (f : Txt), vs = [oV e, Tx f] ∧ ∀ b, b = reachB e f → Q (.bl b) H
theorem cl_reachesG {f : Addr} {fd : FuncData} (D : Df K mg "reaches" s_reaches ["end", "first"] f fd) (T : Nm mg) : Cl P w K mg base 1 "reaches" s_reaches ["end", "first"] spReachesG := by
  refine D.cl sc_reaches (fun vs H Q E h => ?_) (fun cdv A outer s H vs Q E hr h => ?_)
  · obtain ⟨e, f, rfl, _⟩ := h
    rfl
  · obtain ⟨e, f, rfl, k⟩ := h
    refine ⟨_, (pss_one (ps_ret (pe_or (pe_cmpR op_isN (pv 0) pe_non (by first | exact nomark _ | rfl)) (pe_one (pe_cmpR op_ge_str (pv 0) (pv 1) (by first | exact nomark _ | rfl)))))), ?_⟩
    cases e with
    | none => exact ⟨_, rfl, rfl, _, rfl, k _ rfl⟩
    | some e => exact ⟨_, rfl, rfl, _, rfl, _, rfl, _, rfl, tx e, tx f, rfl, rfl, k _ rfl⟩
def laterM : Option Txt → Option Txt → Option Txt
  | some a, some b => if b < a then some a else some b
  | _, _ => none
def spLater : Sp := fun vs H Q _ => ∃ (a b : Option Txt), vs = [oV a, oV b] ∧ Q (oV (laterM a b)) H
theorem cl_later_end {f : Addr} {fd : FuncData} (D : Df K mg "later_end" s_later_end ["end", "other_end"] f fd) (T : Nm mg) : Cl P w K mg base 1 "later_end" s_later_end ["end", "other_end"] spLater := by
  refine D.cl sc_later_end (fun vs H Q E h => ?_) (fun cdv A outer s H vs Q E hr h => ?_)
  · obtain ⟨e, f, rfl, _⟩ := h
    rfl
  · obtain ⟨a, b, rfl, k⟩ := h
    refine ⟨_, (pss_cons (ps_if (PW.pt (pw_or (pt_cmpR op_isN (pv 0) pe_non (by first | exact nomark _ | rfl)) (pw_or1 (pt_cmpR op_isN (pv 1) pe_non (by first | exact nomark _ | rfl))))) (pss_one (ps_ret pe_non)) pss_nil)
      (pss_one (ps_ret (pe_ifExp (pt_cmpR op_gt_str (pv 0) (pv 1) (by first | exact nomark _ | rfl)) (pv 0) (pv 1))))), ?_⟩
    refine ⟨_, rfl, rfl, _, rfl, ?_⟩
    cases a with
    | none => exact k
    | some a =>
      refine ⟨_, rfl, rfl, _, rfl, ?_⟩
      cases b with
      | none => exact k
      | some b =>
        refine ⟨_, rfl, _, rfl, tx a, tx b, rfl, rfl, _, rfl, ?_⟩
        have k' : Q (oV (if b < a then some a else some b)) H := k
        refine ite2 (fun h => ?_) (fun h => ?_)
        · rw [if_pos (show b < a from of_decide_eq_true h)] at k'
          exact ⟨_, rfl, k'⟩
        · rw [if_neg (show ¬ b < a from fun q => h (decide_eq_true q))] at k'
          exact ⟨_, rfl, k'⟩
def spAsc (K : PySem.W.Frag) : Sp := fun vs H Q _ => ∃ (a : Addr) (ls : List Txt), vs = [.ref a] ∧ SqL K H a (ls.map Tx) ∧ (∀ l ∈ ls, Short l) ∧ ls.length ≤ 3000 ∧
  ∀ (zs : List Txt) p H', H p = none → Stp [] H H' → zs.Perm ls → zs.Pairwise (· ≤ ·) → H' p = some (.lst (zs.map Tx)) → Q (.ref p) H'
theorem cl_ascending {f : Addr} {fd : FuncData} (D : Df K mg "ascending" s_ascending ["texts"] f fd) (T : Nm mg) : Cl P w K mg base 1 "ascending" s_ascending ["texts"] (spAsc K) := by
  refine D.cl sc_ascending (fun vs H Q E h => ?_) (fun cdv A outer s H vs Q E hr h => ?_)
  · obtain ⟨a, ls, rfl, _⟩ := h
    rfl
  · obtain ⟨a, ls, rfl, hs, sh, few, k⟩ := h
    refine ⟨_, (pss_one (ps_ret (pe_callB Pg.cr_sortedSA (by rfl) T.n_sorted (by decide +kernel) (pa_cons (pe_lc (own := [("text", 1)]) rfl sc_ascending.nd (pi_list (pv 0)) (blkOk_by (own := [("text", 1)]) (N := N_ascending) (sc := defScope s_ascending) (by decide +kernel)) (fun _ _ _ _ _ => (pg_name (i := 1) sc_ascending.nd rfl (by first | exact Or.inl rfl | exact Or.inr rfl))) (fun _ _ _ _ _ => pts_nil) (fun _ _ _ _ _ => (pe_callTy SkE.call_str_str (by rfl) T.n_str (by decide +kernel) (pa_cons (pv 1) pa_nil)))) pa_nil)))), ?_⟩
    refine ⟨_, rfl, a, rfl, ⟨_, hs⟩, fun L nL => ?_⟩
    refine lc_mapL (ds := ls.map Dt.str) nL hs (by simp) (by rw [List.length_map]; omega) (fun j x d H3 hx hd S3 Q2 q => ?_) fun ws H3 S3 h3 r3 => ?_
    · rw [List.getElem?_map] at hx hd
      cases e : ls[j]? with
      | none => rw [e] at hx; cases hx
      | some l =>
        rw [e] at hx hd
        cases hx
        cases hd
        exact ⟨rfl, _, rfl, tx l, rfl, q _ _ (Stp.refl _ _) (.str l (by have := (sh l (List.mem_of_getElem? e)).2; omega))⟩
    · have e3 := rpl_strs r3
      subst e3
      exact ⟨L, ls, rfl, SqL.of h3, fun zs p pm pw np => k zs p _ (S3.fresh (fun m => nomatch m) np) (S3.new' np) pm pw upd_same⟩
def spCkR (K : PySem.W.Frag) : Sp := fun vs H Q _ => ∃ (a : Addr) (xs : List V) (ps : List Pr), vs = [.ref a] ∧ H a = some (.lst xs) ∧ RpL K H xs (ps.map prD) ∧ (∀ p ∈ ps, PrOk p) ∧ ps.length ≤ 3000 ∧ ∀ H', Stp [] H H' → Q .non H'
theorem cl_check_ranges {f : Addr} {fd : FuncData} (D : Df K mg "check_ranges" s_check_ranges ["ranges"] f fd) (T : Nm mg) (c_is_range : Cl P w K mg base 2 "is_range" s_is_range ["value"] (spIsRange K)) : Cl P w K mg base 3 "check_ranges" s_check_ranges ["ranges"] (spCkR K) := by
  refine D.cl sc_check_ranges (fun vs H Q E h => ?_) (fun cdv A outer s H vs Q E hr h => ?_)
  · obtain ⟨a, xs, ps, rfl, _⟩ := h
    rfl
  · obtain ⟨a, xs, ps, rfl, hs, rl, ok, few, k⟩ := h
    refine ⟨_, (pss_one (ps_if (PW.pt (pw_or (pt_tyNot (T := "list") Mono.var (pv 0) T.n_type T.n_list (by decide +kernel)) (pw_or1 (pt_not (pt_val (pe_callB (cr_all rfl) (by rfl) T.n_all (by decide +kernel) (pa_cons (pe_lc (own := [("part", 1)]) rfl sc_check_ranges.nd (pi_list (pv 0)) (blkOk_by (own := [("part", 1)]) (N := N_check_ranges) (sc := defScope s_check_ranges) (by decide +kernel)) (fun _ _ _ _ _ => (pg_name (i := 1) sc_check_ranges.nd rfl (by first | exact Or.inl rfl | exact Or.inr rfl))) (fun _ _ _ _ _ => pts_nil) (fun _ _ _ _ _ => (pe_cl c_is_range hr (by omega) (pa_cons (pv 1) pa_nil)))) pa_nil))))))) (pss_one ps_never) pss_nil)), ?_⟩
    have lx : xs.length = ps.length := by rw [rl.len, List.length_map]
    refine ⟨_, rfl, .lst, .lst hs, ?_⟩
    refine ite2 (fun h => absurd h (by simp [Dt.ty])) (fun _ => ?_)
    refine ⟨_, rfl, a, rfl, ⟨_, SqL.of hs⟩, fun L nL => ?_⟩
    refine lc_mapL (ds := (ps.map fun _ => true).map Dt.bl) nL (SqL.of hs) (by simp [lx]) (by omega) (fun j x d H3 hx hd S3 Q2 q => ?_) fun ws H3 S3 h3 r3 => ?_
    · obtain ⟨p, hp, t, rfl, ht⟩ := prs_get rl hx
      rw [List.getElem?_map, List.getElem?_map, hp] at hd
      cases hd
      exact ⟨rfl, _, rfl, t, p, rfl, sqt_stp S3 Lsts.nil ht, ok p (List.mem_of_getElem? hp), q _ _ (Stp.refl _ _) (.bl _)⟩
    · have e3 := rpl_bls r3
      subst e3
      refine ⟨L, _, rfl, SqL.of h3, ?_⟩
      have e : ((ps.map fun _ => true).all id) = true := by
        rw [List.all_eq_true]
        intro x m
        obtain ⟨_, _, rfl⟩ := List.mem_map.mp m
        rfl
      rw [e]
      exact ⟨_, rfl, k _ S3⟩
theorem inP_later {w g : Txt} {a b : Option Txt} : inP w (g, laterM a b) = (inP w (g, a) || inP w (g, b)) := by
  rw [Bool.eq_iff_iff, Bool.or_eq_true, inP_iff, inP_iff, inP_iff]
  cases a with
  | none =>
    show (g ≤ w ∧ ∀ e, none = some e → w < e) ↔ _
    exact ⟨fun h => .inl h, fun h => h.elim id fun h => ⟨h.1, fun e he => by cases he⟩⟩
  | some a =>
    cases b with
    | none =>
      show (g ≤ w ∧ ∀ e, none = some e → w < e) ↔ _
      exact ⟨fun h => .inr h, fun h => h.elim (fun h => ⟨h.1, fun e he => by cases he⟩) id⟩
    | some b =>
      show (g ≤ w ∧ ∀ e, (if b < a then some a else some b) = some e → w < e) ↔ _
      by_cases c : b < a
      · rw [if_pos c]
        constructor
        · exact fun h => .inl ⟨h.1, fun e he => h.2 e he⟩
        · rintro (h | h)
          · exact h
          · exact ⟨h.1, fun e he => by cases he; exact List.lt_trans (h.2 b rfl) c⟩
      · rw [if_neg c]
        constructor
        · exact fun h => .inr ⟨h.1, fun e he => h.2 e he⟩
        · rintro (h | h)
          · exact ⟨h.1, fun e he => by cases he; exact lt_le (h.2 a rfl) (le_of_nlt c)⟩
          · exact h
theorem later_ok {g : Txt} {a b : Option Txt} (ha : PrOk (g, a)) (hb : PrOk (g, b)) : PrOk (g, laterM a b) := by
  refine ⟨ha.1, fun e he => ?_⟩
  cases a with
  | none => cases he
  | some a =>
    cases b with
    | none => cases he
    | some b =>
      have he : (if b < a then some a else some b) = some e := he
      by_cases c : b < a
      · rw [if_pos c] at he
        exact ha.2 e he
      · rw [if_neg c] at he
        exact hb.2 e he
/-! the ends by first texts -/
def kvE (E : List Pr) : List (Key × V) := E.map fun p => (Sum.inr (tx p.1), oV p.2)
def lk (E : List Pr) (g : Txt) : Option (Option Txt) := (E.find? fun p => decide (p.1 = g)).map Prod.snd
def putE (E : List Pr) (g : Txt) (e : Option Txt) : List Pr := if (E.any fun p => decide (p.1 = g)) = true then E.map (fun p => if p.1 = g then (p.1, e) else p) else E ++ [(g, e)]
theorem key_eq {a b : Txt} : ((Sum.inr (tx a) : Key) = Sum.inr (tx b)) ↔ a = b := ⟨fun h => tx_inj (Sum.inr.inj h), fun h => by rw [h]⟩
theorem valV_kvE : ∀ (E : List Pr) (g : Txt), valV (kvE E) (Sum.inr (tx g) : Key) = (lk E g).map oV
  | [], _ => rfl
  | p :: E, g => by
    show valV ((Sum.inr (tx p.1), oV p.2) :: kvE E) _ = _
    by_cases c : p.1 = g
    · rw [valV_pos (show (Sum.inr (tx p.1) : Key) = _ from key_eq.mpr c)]
      unfold lk
      rw [List.find?_cons_of_pos (by simp [c])]
      rfl
    · rw [valV_neg (fun q => c (key_eq.mp q)), valV_kvE E g]
      unfold lk
      rw [List.find?_cons_of_neg (by simp [c])]
theorem putK_kvE (E : List Pr) (g : Txt) (e : Option Txt) : putK (kvE E) (Sum.inr (tx g) : Key) (oV e) = kvE (putE E g e) := by
  have a : ((kvE E).any fun kv => decide (kv.1 = (Sum.inr (tx g) : Key))) = E.any fun p => decide (p.1 = g) := by
    unfold kvE
    rw [List.any_map]
    congr 1
    funext p
    show decide ((Sum.inr (tx p.1) : Key) = _) = _
    exact decide_eq_decide.mpr key_eq
  unfold putK putE
  rw [a]
  split
  · unfold kvE
    rw [List.map_map, List.map_map]
    refine List.map_congr_left fun p _ => ?_
    show (if (Sum.inr (tx p.1) : Key) = Sum.inr (tx g) then ((Sum.inr (tx p.1) : Key), oV e) else (Sum.inr (tx p.1), oV p.2)) = (fun p : Pr => ((Sum.inr (tx p.1) : Key), oV p.2)) (if p.1 = g then (p.1, e) else p)
    by_cases c : p.1 = g
    · rw [if_pos (key_eq.mpr c), if_pos c]
    · rw [if_neg (fun q => c (key_eq.mp q)), if_neg c]
  · unfold kvE
    rw [List.map_append]
    rfl
theorem putE_keys (E : List Pr) (g : Txt) (e : Option Txt) : (putE E g e).map Prod.fst = if (E.any fun p => decide (p.1 = g)) = true then E.map Prod.fst else E.map Prod.fst ++ [g] := by
  unfold putE
  split
  · rw [List.map_map]
    refine List.map_congr_left fun p _ => ?_
    show (if p.1 = g then (p.1, e) else p).1 = p.1
    split <;> rfl
  · rw [List.map_append]
    rfl
theorem any_key {E : List Pr} {g : Txt} : (E.any fun p => decide (p.1 = g)) = true ↔ g ∈ E.map Prod.fst := by
  rw [List.any_eq_true, List.mem_map]
  constructor
  · rintro ⟨p, m, h⟩
    exact ⟨p, m, of_decide_eq_true h⟩
  · rintro ⟨p, m, h⟩
    exact ⟨p, m, decide_eq_true h⟩
theorem putE_nd {E : List Pr} {g : Txt} {e : Option Txt} (nd : (E.map Prod.fst).Nodup) : ((putE E g e).map Prod.fst).Nodup := by
  rw [putE_keys]
  split
  · exact nd
  · rename_i c
    rw [any_key] at c
    rw [List.nodup_append]
    exact ⟨nd, List.nodup_cons.mpr ⟨List.not_mem_nil, List.nodup_nil⟩, fun a ma b mb => by rw [List.mem_singleton.mp mb]; exact fun q => c (q ▸ ma)⟩
theorem putE_len {E : List Pr} {g : Txt} {e : Option Txt} : (putE E g e).length ≤ E.length + 1 := by
  unfold putE
  split <;> simp
theorem lk_some {E : List Pr} (nd : (E.map Prod.fst).Nodup) {p : Pr} (m : p ∈ E) : lk E p.1 = some p.2 := by
  unfold lk
  induction E with
  | nil => cases m
  | cons q E ih =>
    rw [List.map_cons, List.nodup_cons] at nd
    rcases List.mem_cons.mp m with rfl | m
    · rw [List.find?_cons_of_pos (by simp)]
      rfl
    · rw [List.find?_cons_of_neg, ih nd.2 m]
      simp only [decide_eq_true_eq]
      exact fun h => nd.1 (h ▸ List.mem_map.mpr ⟨p, m, rfl⟩)
theorem lk_mem {E : List Pr} {g : Txt} {e : Option Txt} (h : lk E g = some e) : (g, e) ∈ E := by
  unfold lk at h
  cases q : E.find? fun p => decide (p.1 = g) with
  | none => rw [q] at h; cases h
  | some p =>
    rw [q] at h
    cases h
    have a := List.find?_some q
    have b := of_decide_eq_true a
    rw [← b]
    exact List.mem_of_find?_eq_some q
theorem lk_none {E : List Pr} {g : Txt} (h : lk E g = none) : ¬ (E.any fun p => decide (p.1 = g)) = true := by
  unfold lk at h
  have a : E.find? (fun p => decide (p.1 = g)) = none := by simpa using h
  rw [List.find?_eq_none] at a
  rw [List.any_eq_true]
  rintro ⟨p, m, q⟩
  exact a p m q
theorem put_new {E : List Pr} {g : Txt} {e : Option Txt} (h : lk E g = none) (w : Txt) : inS (putE E g e) w = (inS E w || inP w (g, e)) := by
  unfold putE
  rw [if_neg (lk_none h), inS_app, inS_cons]
  show (inS E w || (inP w (g, e) || false)) = _
  rw [Bool.or_false]
theorem put_old {E : List Pr} (nd : (E.map Prod.fst).Nodup) {g : Txt} {e e0 : Option Txt} (h : lk E g = some e0) (w : Txt) : inS (putE E g (laterM e e0)) w = (inS E w || inP w (g, e)) := by
  have m := lk_mem h
  have an : (E.any fun p => decide (p.1 = g)) = true := any_key.mpr (List.mem_map.mpr ⟨_, m, rfl⟩)
  unfold putE
  rw [if_pos an, Bool.eq_iff_iff, Bool.or_eq_true]
  constructor
  · intro hh
    obtain ⟨q, mq, hq⟩ := inS_mem.mp hh
    obtain ⟨p, mp, rfl⟩ := List.mem_map.mp mq
    by_cases c : p.1 = g
    · rw [if_pos c, c, inP_later, Bool.or_eq_true] at hq
      rcases hq with hq | hq
      · exact .inr hq
      · exact .inl (inS_mem.mpr ⟨_, m, hq⟩)
    · rw [if_neg c] at hq
      exact .inl (inS_mem.mpr ⟨p, mp, hq⟩)
  · rintro (hh | hh)
    · obtain ⟨p, mp, hp⟩ := inS_mem.mp hh
      refine inS_mem.mpr ⟨_, List.mem_map.mpr ⟨p, mp, rfl⟩, ?_⟩
      by_cases c : p.1 = g
      · rw [if_pos c, c, inP_later, Bool.or_eq_true]
        have e2 := lk_some nd mp
        rw [c, h] at e2
        have pe : p = (g, e0) := Prod.ext c (Option.some.inj e2).symm
        rw [pe] at hp
        exact .inr hp
      · rw [if_neg c]
        exact hp
    · refine inS_mem.mpr ⟨_, List.mem_map.mpr ⟨_, m, rfl⟩, ?_⟩
      rw [if_pos rfl, inP_later, Bool.or_eq_true]
      exact .inl hh
theorem putE_ok {E : List Pr} {g : Txt} {e : Option Txt} (ok : ∀ p ∈ E, PrOk p) (h : PrOk (g, e)) : ∀ p ∈ putE E g e, PrOk p := fun p m => by
  unfold putE at m
  split at m
  · obtain ⟨q, mq, rfl⟩ := List.mem_map.mp m
    by_cases c : q.1 = g
    · rw [if_pos c, c]
      exact h
    · rw [if_neg c]
      exact ok q mq
  · rcases List.mem_append.mp m with m | m
    · exact ok p m
    · rw [List.mem_singleton.mp m]
      exact h
theorem take_in {ps : List Pr} {i : Nat} {p : Pr} (h : ps[i]? = some p) (w : Txt) : inS (ps.take (i + 1)) w = (inS (ps.take i) w || inP w p) := by
  rw [List.take_add_one, h, inS_app]
  show (inS (ps.take i) w || inS [p] w) = _
  rw [inS_cons]
  show (inS (ps.take i) w || (inP w p || false)) = _
  rw [Bool.or_false]
/-- the entry of a first text -/
def ent (E : List Pr) (z : Txt) : Pr := (z, (lk E z).getD none)
theorem ent_in {E : List Pr} (nd : (E.map Prod.fst).Nodup) {zs : List Txt} (pm : zs.Perm (E.map Prod.fst)) (w : Txt) : inS (zs.map (ent E)) w = inS E w := by
  rw [Bool.eq_iff_iff]
  constructor
  · intro h
    obtain ⟨q, mq, hq⟩ := inS_mem.mp h
    obtain ⟨z, mz, rfl⟩ := List.mem_map.mp mq
    obtain ⟨p, mp, rfl⟩ := List.mem_map.mp (pm.mem_iff.mp mz)
    have : ent E p.1 = p := by unfold ent; rw [lk_some nd mp]; rfl
    rw [this] at hq
    exact inS_mem.mpr ⟨p, mp, hq⟩
  · intro h
    obtain ⟨p, mp, hp⟩ := inS_mem.mp h
    have : ent E p.1 = p := by unfold ent; rw [lk_some nd mp]; rfl
    exact inS_mem.mpr ⟨p, List.mem_map.mpr ⟨p.1, pm.mem_iff.mpr (List.mem_map.mpr ⟨p, mp, rfl⟩), this⟩, hp⟩
/-- the last part takes the next range in -/
theorem ext_in {d0 : List Pr} {d : Pr} {z : Txt} {e : Option Txt} (le : d.1 ≤ z) (r : reachB d.2 z = true) (w : Txt) : inS (d0 ++ [(d.1, laterM d.2 e)]) w = (inS (d0 ++ [d]) w || inP w (z, e)) := by
  have key : (inP w d || inP w (d.1, e)) = (inP w d || inP w (z, e)) := by
    rw [Bool.eq_iff_iff, Bool.or_eq_true, Bool.or_eq_true]
    constructor
    · rintro (h | h)
      · exact .inl h
      · obtain ⟨h1, h2⟩ := inP_iff.mp h
        by_cases c : z ≤ w
        · exact .inr (inP_iff.mpr ⟨c, h2⟩)
        · refine .inl (inP_iff.mpr ⟨h1, fun e' he => ?_⟩)
          rw [he] at r
          have r' : ¬ e' < z := by simpa [reachB] using r
          have wz : w < z := by
            by_cases q : w < z
            · exact q
            · exact absurd (le_of_nlt q) c
          exact lt_le wz (le_of_nlt r')
    · rintro (h | h)
      · exact .inl h
      · obtain ⟨h1, h2⟩ := inP_iff.mp h
        exact .inr (inP_iff.mpr ⟨List.le_trans le h1, h2⟩)
  have k2 : (inP w (d.1, d.2) || inP w (d.1, e)) = (inP w d || inP w (z, e)) := key
  rw [inS_app, inS_app, inS_cons, inS_cons, inP_later, k2]
  show (inS d0 w || ((inP w d || inP w (z, e)) || false)) = ((inS d0 w || (inP w d || false)) || inP w (z, e))
  cases inS d0 w <;> cases inP w d <;> cases inP w (z, e) <;> rfl
theorem ext_ok {d0 : List Pr} {d : Pr} {z : Txt} {e : Option Txt} (ok : SpOk (d0 ++ [d])) (h : PrOk (z, e)) (lt : d.1 ≤ z) : SpOk (d0 ++ [(d.1, laterM d.2 e)]) := by
  have od := ok.ok d (by simp)
  refine ⟨fun p m => ?_, List.pairwise_append.mpr ⟨(List.pairwise_append.mp ok.gap).1, List.pairwise_singleton _ _, fun p mp q mq => ?_⟩⟩
  · rcases List.mem_append.mp m with m | m
    · exact ok.ok p (List.mem_append_left _ m)
    · rw [List.mem_singleton.mp m]
      exact later_ok (g := d.1) od ⟨od.1, fun e' he => ⟨(h.2 e' he).1, le_lt lt (h.2 e' he).2⟩⟩
  · rw [List.mem_singleton.mp mq]
    obtain ⟨e', f1, f2⟩ := (List.pairwise_append.mp ok.gap).2.2 p mp d List.mem_cons_self
    exact ⟨e', f1, f2⟩
theorem new_ok {ds : List Pr} {z : Txt} {e : Option Txt} (ok : SpOk ds) (h : PrOk (z, e)) (g : ∀ d, ds.getLast? = some d → reachB d.2 z = false) : SpOk (ds ++ [(z, e)]) := by
  refine ⟨fun p m => ?_, List.pairwise_append.mpr ⟨ok.gap, List.pairwise_singleton _ _, fun p mp q mq => ?_⟩⟩
  · rcases List.mem_append.mp m with m | m
    · exact ok.ok p m
    · rw [List.mem_singleton.mp m]
      exact h
  · rw [List.mem_singleton.mp mq]
    rcases List.eq_nil_or_concat ds with rfl | ⟨d0, d, rfl⟩
    · cases mp
    rw [List.concat_eq_append] at *
    have r := g d (by rw [List.getLast?_append, List.getLast?_singleton]; rfl)
    obtain ⟨e1, f1, f2⟩ : Gap d (z, e) := by
      cases q : d.2 with
      | none => rw [q] at r; cases r
      | some e1 =>
        rw [q] at r
        have r' : e1 < z := by simpa [reachB] using r
        exact ⟨e1, q, r'⟩
    rcases List.mem_append.mp mp with mp | mp
    · obtain ⟨e', g1, g2⟩ := (List.pairwise_append.mp ok.gap).2.2 p mp d List.mem_cons_self
      exact ⟨e', g1, List.lt_trans g2 (List.lt_trans ((ok.ok d (by simp)).2 e1 f1).2 f2)⟩
    · rw [List.mem_singleton.mp mp]
      exact ⟨e1, f1, f2⟩
def spSpanOf (K : PySem.W.Frag) : Sp := fun vs H Q _ => ∃ (a : Addr) (xs : List V) (ps : List Pr), vs = [.ref a] ∧ H a = some (.lst xs) ∧ RpL K H xs (ps.map prD) ∧ (∀ p ∈ ps, PrOk p) ∧ ps.length ≤ 3000 ∧
  ∀ b ds H', Stp [] H H' → Spn K H' b ds → (∀ w, inS ds w = inS ps w) → Q (.ref b) H'
theorem atL {α : Type} {xs : List α} {v : α} (h : xs ≠ []) (e : xs[xs.length - 1]? = some v) : atI xs (-1) = some v := by
  obtain ⟨ys, y, hy⟩ : ∃ ys y, xs = ys ++ [y] := ⟨_, _, (List.dropLast_concat_getLast h).symm⟩
  subst hy
  rw [List.length_append, List.length_singleton, Nat.add_sub_cancel, List.getElem?_append_right (Nat.le_refl _), Nat.sub_self] at e
  cases e
  exact atI_last ys _
theorem cl_span_of {f : Addr} {fd : FuncData} (D : Df K mg "span_of" s_span_of ["ranges"] f fd) (T : Nm mg) (c_check_ranges : Cl P w K mg base 3 "check_ranges" s_check_ranges ["ranges"] (spCkR K)) (c_later_end : Cl P w K mg base 1 "later_end" s_later_end ["end", "other_end"] spLater)
    (c_ascending : Cl P w K mg base 1 "ascending" s_ascending ["texts"] (spAsc K)) (c_reaches : Cl P w K mg base 1 "reaches" s_reaches ["end", "first"] spReachesG) : Cl P w K mg base 4 "span_of" s_span_of ["ranges"] (spSpanOf K) := by
  refine D.cl sc_span_of (fun vs H Q E h => ?_) (fun cdv A outer s H vs Q E hr h => ?_)
  · obtain ⟨a, xs, ps, rfl, _⟩ := h
    rfl
  · obtain ⟨a, xs, ps, rfl, hs, rl, ok, few, k⟩ := h
    refine ⟨_, (pss_cons (ps_expr (pe_cl c_check_ranges hr (by omega) (pa_cons (pv 0) pa_nil)))
      (pss_cons (ps_set (i := 1) sc_span_of.nd rfl (by first | exact Or.inl rfl | exact Or.inr rfl) pe_dnewK)
      (pss_cons (ps_for PassesOwn.never rfl (pi_list (pv 0)) (pg_tup rfl (pgs_cons (pg_name (i := 2) sc_span_of.nd rfl (by first | exact Or.inl rfl | exact Or.inr rfl)) (pgs_cons (pg_name (i := 3) sc_span_of.nd rfl (by first | exact Or.inl rfl | exact Or.inr rfl)) pgs_nil (by rfl)) (by rfl)) (by rfl) (by rfl)) (pss_one (ps_dput (hu_of hr) (pv 1) (pv 2) (pe_ifExp (pt_cmp (pc_din (hu_of hr) (pv 2) (pv 1))) (pe_cl c_later_end hr (by omega) (pa_cons (pv 3) (pa_cons (pe_dget (hu_of hr) (pv 1) (pv 2) (fun _ _ => rfl)) pa_nil))) (pv 3)) rfl)))
      (pss_cons (ps_set (i := 4) sc_span_of.nd rfl (by first | exact Or.inl rfl | exact Or.inr rfl) (pe_lst pa_nil))
      (pss_cons (ps_for PassesOwn.never rfl (pi_list (pe_cl c_ascending hr (by omega) (pa_cons (pe_callTy (call_list_dK rfl) (by rfl) T.n_list (by decide +kernel) (pa_cons (pv 1) pa_nil)) pa_nil))) (pg_name (i := 2) sc_span_of.nd rfl (by first | exact Or.inl rfl | exact Or.inr rfl)) (pss_one (ps_if (PW.pt (pw_and (pt_truth (pv 4) (by intro _; rfl)) (pw_and1 (pt_val (pe_cl c_reaches hr (by omega) (pa_cons (pe_ix ix_tup (pe_ix ix_list (pv 4) (pe_un un_neg pe_int) (fun _ _ => rfl)) pe_int (fun _ _ => rfl)) (pa_cons (pv 2) pa_nil))))))) (pss_one (ps_asg (pe_tup (pa_cons (pe_ix ix_tup (pe_ix ix_list (pv 4) (pe_un un_neg pe_int) (fun _ _ => rfl)) pe_int (fun _ _ => rfl)) (pa_cons (pe_cl c_later_end hr (by omega) (pa_cons (pe_ix ix_tup (pe_ix ix_list (pv 4) (pe_un un_neg pe_int) (fun _ _ => rfl)) pe_int (fun _ _ => rfl)) (pa_cons (pe_dget (hu_of hr) (pv 1) (pv 2) (fun _ _ => rfl)) pa_nil))) pa_nil))) (pg_sub (pv 4) (pe_un un_neg pe_int) set_list))) (pss_one (ps_expr (pe_bm PySem.F.plainAttrs_list PySem.F.slot_list_append PySem.F.type_list_append mt_append (pv 4) (pa_cons (pe_tup (pa_cons (pv 2) (pa_cons (pe_dget (hu_of hr) (pv 1) (pv 2) (fun _ _ => rfl)) pa_nil))) pa_nil)))))))
      (pss_one (ps_ret (pe_callTy call_tuple_of (by rfl) T.n_tuple (by decide +kernel) (pa_cons (pv 4) pa_nil))))))))), ?_⟩
    have lx : xs.length = ps.length := by rw [rl.len, List.length_map]
    refine ⟨_, rfl, a, xs, ps, rfl, hs, rl, ok, few, fun H1 S1 => ?_⟩
    have hs1 := S1.kp _ _ (fun m => nomatch m) hs
    have rl1 := rl.stp S1 Lsts.nil
    refine fun d nd => ?_
    have S0 : Stp [] H1 (upd H1 d (.dK [])) := Stp.new nd _
    refine ⟨_, rfl, a, rfl, ⟨_, SqL.of (S0.kp _ _ (fun m => nomatch m) hs1)⟩, for_list (a := a) (xs := xs) (fun i σ H2 => ∃ (E : List Pr) (x2 x3 x4 : Option V), σ = [some (.ref a), some (.ref d), x2, x3, x4] ∧ H2 d = some (.dK (kvE E)) ∧ (E.map Prod.fst).Nodup ∧ (∀ p ∈ E, PrOk p) ∧ E.length ≤ i ∧ (∀ w, inS E w = inS (ps.take i) w) ∧ Stp [] H1 H2)
      ⟨[], _, _, _, rfl, upd_same, List.nodup_nil, fun _ m => (nomatch m), Nat.le_refl _, fun _ => rfl, S0⟩ (fun i σ H2 _ ⟨_, _, _, _, _, _, _, _, _, _, S⟩ => SqL.of (S.kp _ _ (fun m => nomatch m) hs1)) ?_ ?_⟩
    · rintro i x σ H2 hi ⟨E, x2, x3, x4, rfl, hd, nD, okE, lE, eq, S⟩
      obtain ⟨⟨g, e⟩, hp, t, rfl, ht⟩ := prs_get rl1 hi
      have op := ok _ (List.mem_of_getElem? hp)
      have il : i < ps.length := (List.getElem?_eq_some_iff.mp hp).1
      have big : (kvE E).length < sizeLine := by
        unfold kvE
        rw [List.length_map]
        exact Nat.lt_of_le_of_lt (show E.length ≤ 3000 by omega) (by decide)
      refine ⟨t, _, rfl, sqt_stp S Lsts.nil ht, rfl, _, _, rfl, _, _, rfl, rfl, ?_⟩
      have fin : ∀ e' : Option Txt, PrOk (g, e') → (∀ w, inS (putE E g e') w = (inS E w || inP w (g, e))) → ∃ (E' : List Pr) (x2 x3 x4' : Option V), [some (V.ref a), some (V.ref d), some (Tx g), some (oV e), x4] = [some (.ref a), some (.ref d), x2, x3, x4'] ∧ (upd H2 d (.dK (putK (kvE E) (Sum.inr (tx g) : Key) (oV e')))) d = some (.dK (kvE E')) ∧ (E'.map Prod.fst).Nodup ∧ (∀ p ∈ E', PrOk p) ∧ E'.length ≤ i + 1 ∧ (∀ w, inS E' w = inS (ps.take (i + 1)) w) ∧ Stp [] H1 (upd H2 d (.dK (putK (kvE E) (Sum.inr (tx g) : Key) (oV e')))) := fun e' oe he => by
        refine ⟨putE E g e', _, _, _, rfl, by rw [upd_same, putK_kvE], putE_nd nD, putE_ok okE oe, Nat.le_trans putE_len (by omega), fun w => ?_, S.mutO nd⟩
        rw [he, eq, take_in hp]
      refine ⟨_, rfl, _, rfl, d, _, rfl, DGet.k (k := (Sum.inr (tx g) : Key)) hd, ?_⟩
      rw [valV_kvE]
      cases q : lk E g with
      | none =>
        refine ⟨_, rfl, ite2 (fun h => absurd h (by simp)) (fun _ => ?_)⟩
        exact ⟨_, rfl, _, rfl, _, rfl, d, _, rfl, DPut.k (k := (Sum.inr (tx g) : Key)) hd big, fin e op (put_new q)⟩
      | some e0 =>
        refine ⟨_, rfl, ite2 (fun _ => ?_) (fun h => absurd (show true = true from rfl) h)⟩
        refine ⟨_, rfl, _, rfl, _, rfl, d, oV e0, rfl, by have := DGet.k (k := (Sum.inr (tx g) : Key)) hd; rwa [valV_kvE, q] at this, e, e0, rfl, ?_⟩
        exact ⟨_, rfl, _, rfl, d, _, rfl, DPut.k (k := (Sum.inr (tx g) : Key)) hd big, fin _ (later_ok op (okE _ (lk_mem q))) (put_old nD q)⟩
    · rintro σ H2 ⟨E, x2, x3, x4, rfl, hd, nD, okE, lE, eq, S⟩
      rw [lx, List.take_length] at eq
      refine ⟨Nat.zero_le _, fun G nG => ?_⟩
      have S2 : Stp [] H2 (upd H2 G (.lst [])) := Stp.new nG _
      have hd2 := S2.kp _ _ (fun m => nomatch m) hd
      refine ⟨_, rfl, d, _, rfl, hd2, fun q nq => ?_⟩
      have ek : (kvE E).map (fun kv => kV kv.1) = (E.map Prod.fst).map Tx := by
        unfold kvE
        rw [List.map_map, List.map_map]
        rfl
      rw [ek]
      have S3 : Stp [] (upd H2 G (.lst [])) (upd (upd H2 G (.lst [])) q (.lst ((E.map Prod.fst).map Tx))) := Stp.new nq _
      refine ⟨q, E.map Prod.fst, rfl, SqL.of upd_same, fun l m => ?_, by rw [List.length_map]; omega, fun zs z H4 nz0 S4 pm pw hz => ?_⟩
      · obtain ⟨p, mp, rfl⟩ := List.mem_map.mp m
        exact (okE p mp).1
      have hG : H4 G = some (.lst []) := S4.kp _ _ (fun m => nomatch m) (S3.kp _ _ (fun m => nomatch m) upd_same)
      have hd4 : H4 d = some (.dK (kvE E)) := S4.kp _ _ (fun m => nomatch m) (S3.kp _ _ (fun m => nomatch m) hd2)
      have S14 := ((S.trans S2).trans S3).trans S4
      have nz : zs.Nodup := pm.nodup_iff.mpr nD
      have lz : zs.length ≤ 3000 := by rw [pm.length_eq, List.length_map]; omega
      have asc' : zs.Pairwise (· < ·) := pw.imp₂ (fun a b h1 h2 => by
        by_cases c : a < b
        · exact c
        · exact absurd (List.le_antisymm h1 (le_of_nlt c)) h2) nz
      have zG : z ∉ [G] := fun m => by
        rw [List.mem_singleton.mp m] at nz0
        rw [S3.kp G _ (fun m => nomatch m) upd_same] at nz0
        cases nz0
      have dG : d ∉ [G] := fun m => by
        rw [List.mem_singleton.mp m] at hd4
        rw [hG] at hd4
        cases hd4
      refine ⟨z, rfl, ⟨_, SqL.of hz⟩, for_list (a := z) (xs := zs.map Tx) (fun i σ H5 => ∃ (ds : List Pr) (vs : List V) (x2 x3 : Option V), σ = [some (.ref a), some (.ref d), x2, x3, some (.ref G)] ∧ H5 G = some (.lst vs) ∧ RpL K H5 vs (ds.map prD) ∧ SpOk ds ∧ ds.length ≤ i ∧ (∀ p ∈ ds, p.1 ∈ zs.take i) ∧ (∀ w, inS ds w = inS ((zs.take i).map (ent E)) w) ∧ Stp [G] H4 H5)
        ⟨[], [], _, _, rfl, hG, .nil, .nil, Nat.le_refl _, fun _ m => (nomatch m), fun _ => rfl, Stp.refl _ _⟩ (fun i σ H5 _ ⟨_, _, _, _, _, _, _, _, _, _, _, S5⟩ => SqL.of (S5.kp _ _ zG hz)) ?_ ?_⟩
      · rintro i x σ H5 hi ⟨ds, vs, x2, x3, rfl, hG5, rd, okd, ld, fs, eqd, S5⟩
        rw [List.getElem?_map] at hi
        cases ez : zs[i]? with
        | none => rw [ez] at hi; cases hi
        | some y =>
        rw [ez] at hi
        cases hi
        have il : i < zs.length := (List.getElem?_eq_some_iff.mp ez).1
        have hd5 := S5.kp _ _ dG hd4
        obtain ⟨p, mp, py⟩ := List.mem_map.mp (pm.mem_iff.mp (List.mem_of_getElem? ez))
        have lky : lk E y = some p.2 := by rw [← py]; exact lk_some nD mp
        have oky : PrOk (y, p.2) := by rw [← py]; exact okE p mp
        have entY : ent E y = (y, p.2) := by unfold ent; rw [lky]; rfl
        have dg : ∀ {H6 : Hp}, H6 d = some (.dK (kvE E)) → DGet H6 d (Tx y) (some (oV p.2)) := fun h6 => by
          have := DGet.k (k := (Sum.inr (tx y) : Key)) h6
          rwa [valV_kvE, lky] at this
        have tk : ∀ w, inS ((zs.take (i + 1)).map (ent E)) w = (inS ds w || inP w (y, p.2)) := fun w => by
          rw [List.take_add_one, ez, List.map_append, inS_app, eqd, ← entY]
          show (_ || inS [ent E y] w) = _
          rw [inS_cons]
          show (_ || (inP w (ent E y) || false)) = _
          rw [Bool.or_false]
        have lv : vs.length < sizeLine := by
          rw [rd.len, List.length_map]
          exact Nat.lt_of_le_of_lt (show ds.length ≤ 3000 by omega) (by decide)
        have len2 : (2 : Nat) ≤ sizeLine := by decide
        have fs' : ∀ q ∈ ds, q.1 ∈ zs.take (i + 1) := fun q m => by
          rw [List.take_add_one, ez]
          exact List.mem_append_left _ (fs q m)
        have yin : y ∈ zs.take (i + 1) := by
          rw [List.take_add_one, ez]
          exact List.mem_append_right _ (by simp)
        have app : (∀ q, ds.getLast? = some q → reachB q.2 y = false) → ∀ (D : Ends), D.nx = (fun σ' H6 => ∃ (ds : List Pr) (vs : List V) (x2 x3 : Option V), σ' = [some (.ref a), some (.ref d), x2, x3, some (.ref G)] ∧ H6 G = some (.lst vs) ∧ RpL K H6 vs (ds.map prD) ∧ SpOk ds ∧ ds.length ≤ i + 1 ∧ (∀ p ∈ ds, p.1 ∈ zs.take (i + 1)) ∧ (∀ w, inS ds w = inS ((zs.take (i + 1)).map (ent E)) w) ∧ Stp [G] H4 H6) →
            ∀ t2, H5 t2 = none → D.nx [some (.ref a), some (.ref d), some (Tx y), x3, some (.ref G)] (upd (upd H5 t2 (.tup [Tx y, oV p.2])) G (.lst (vs ++ [.ref t2]))) := fun last D eD t2 nt2 => by
          rw [eD]
          have nG2 : G ≠ t2 := ne_of_none hG5 nt2
          have hG6 : (upd H5 t2 (.tup [Tx y, oV p.2])) G = some (.lst vs) := by rw [upd_ne nG2]; exact hG5
          have s3 : Stp [] H5 (upd H5 t2 (.tup [Tx y, oV p.2])) := Stp.new nt2 _
          have s4 : Stp [G] (upd H5 t2 (.tup [Tx y, oV p.2])) (upd (upd H5 t2 (.tup [Tx y, oV p.2])) G (.lst (vs ++ [.ref t2]))) := Stp.put (by simp)
          refine ⟨ds ++ [(y, p.2)], vs ++ [.ref t2], _, _, rfl, upd_same, ?_, new_ok okd oky last, by simp; omega, fun q m => ?_, fun w => ?_, (S5.trans s3.nil).trans s4⟩
          · refine prs_one ((rd.stp s3 Lsts.nil).stp s4 (.one hG6)) (pr_rp (p := (y, p.2)) (SqT.of ?_) oky.1.2 fun e q => (oky.2 e q).1.2)
            rw [upd_ne nG2.symm]
            exact upd_same
          · rcases List.mem_append.mp m with m | m
            · exact fs' q m
            · rw [List.mem_singleton.mp m]
              exact yin
          · rw [tk, inS_app]
            congr 1
            rw [inS_cons]
            show (inP w (y, p.2) || false) = _
            rw [Bool.or_false]
        refine ⟨_, rfl, _, .inl ⟨vs, SqL.of hG5, rfl⟩, ?_⟩
        rcases List.eq_nil_or_concat ds with rfl | ⟨d0, q, rfl⟩
        · have ev : vs = [] := List.length_eq_zero_iff.mp (by rw [rd.len]; rfl)
          subst ev
          refine ite2 (fun h => absurd h (by simp)) (fun _ => ?_)
          refine ⟨_, rfl, .inl ⟨rfl, _, SqL.of hG5⟩, _, rfl, _, rfl, _, rfl, d, _, rfl, dg hd5, len2, fun t2 nt2 => ?_⟩
          exact ⟨G, _, _, rfl, rfl, by rw [upd_ne (ne_of_none hG5 nt2)]; exact hG5, lv, app (fun q h => by cases h) _ rfl t2 nt2⟩
        · rw [List.concat_eq_append] at *
          have gl : (d0 ++ [q]).getLast? = some q := by rw [List.getLast?_append, List.getLast?_singleton]; rfl
          have lvs : vs.length = d0.length + 1 := by rw [rd.len, List.length_map, List.length_append]; rfl
          have vne : vs ≠ [] := by intro e; rw [e] at lvs; simp at lvs
          obtain ⟨v, hv0⟩ : ∃ v, vs[d0.length]? = some v := ⟨vs[d0.length]'(by omega), List.getElem?_eq_getElem _⟩
          obtain ⟨q', hq', t, rfl, ht⟩ := prs_get rd hv0
          obtain rfl : q = q' := by
            rw [List.getElem?_append_right (Nat.le_refl _), Nat.sub_self] at hq'
            exact Option.some.inj hq'
          have al : atI vs (-1) = some (.ref t) := atL vne (by rw [lvs, Nat.add_sub_cancel]; exact hv0)
          have qlt : q.1 ≤ y := by
            have m := fs q (by simp)
            obtain ⟨j, hj, ej⟩ := List.mem_iff_getElem.mp m
            rw [List.length_take] at hj
            rw [List.getElem_take] at ej
            have := List.pairwise_iff_getElem.mp asc' j i (by omega) il (by omega)
            rw [ej, (List.getElem?_eq_some_iff.mp ez).2] at this
            exact lt_le' this
          refine ite2 (fun _ => ?_) (fun h => absurd (by cases vs with | nil => exact absurd rfl vne | cons _ _ => rfl) h)
          refine ⟨_, rfl, 1, rfl, G, _, _, .ref t, rfl, rfl, SqL.of hG5, al, t, _, 1, oV q.2, rfl, rfl, ht, at1, _, rfl, q.2, y, rfl, fun b eb => ⟨_, rfl, ite2 (fun h => ?_) (fun h => ?_)⟩⟩
          · have rt : reachB q.2 y = true := by rw [← eb]; exact h
            refine ⟨_, rfl, 1, rfl, G, _, _, .ref t, rfl, rfl, SqL.of hG5, al, t, _, 0, Tx q.1, rfl, rfl, ht, at0, ?_⟩
            refine ⟨_, rfl, 1, rfl, G, _, _, .ref t, rfl, rfl, SqL.of hG5, al, t, _, 1, oV q.2, rfl, rfl, ht, at1, _, rfl, _, rfl, d, _, rfl, dg hd5, q.2, p.2, rfl, len2, fun t2 nt2 => ?_⟩
            have nG2 : G ≠ t2 := ne_of_none hG5 nt2
            have hG6 : (upd H5 t2 (.tup [Tx q.1, oV (laterM q.2 p.2)])) G = some (.lst vs) := by rw [upd_ne nG2]; exact hG5
            have s3 : Stp [] H5 (upd H5 t2 (.tup [Tx q.1, oV (laterM q.2 p.2)])) := Stp.new nt2 _
            have s4 : Stp [G] (upd H5 t2 (.tup [Tx q.1, oV (laterM q.2 p.2)])) (upd (upd H5 t2 (.tup [Tx q.1, oV (laterM q.2 p.2)])) G (.lst (vs.set d0.length (.ref t2)))) := Stp.put (by simp)
            have ixn : ixN vs.length (-1) = some d0.length := by
              unfold ixN
              rw [if_neg (by decide), if_pos (by omega), lvs]
              simp
              omega
            have ok2 := ext_ok okd oky qlt
            have o2 := ok2.ok (q.1, laterM q.2 p.2) (by simp)
            refine ⟨_, rfl, 1, rfl, G, _, _, d0.length, rfl, rfl, hG6, ixn, ?_⟩
            refine ⟨d0 ++ [(q.1, laterM q.2 p.2)], vs.set d0.length (.ref t2), _, _, rfl, upd_same, ?_, ok2, by simp at ld ⊢; omega, fun r m => ?_, fun w => ?_, (S5.trans s3.nil).trans s4⟩
            · have e5 : ((d0 ++ [(q.1, laterM q.2 p.2)]).map prD) = (((d0 ++ [q]).map prD).set d0.length (prD (q.1, laterM q.2 p.2))) := by
                rw [List.map_append, List.map_append, List.set_append_right _ _ (by simp)]
                simp
              rw [e5]
              refine rpl_set ((rd.stp s3 Lsts.nil).stp s4 (.one hG6)) (pr_rp (p := (q.1, laterM q.2 p.2)) (SqT.of ?_) o2.1.2 fun e h => (o2.2 e h).1.2)
              rw [upd_ne nG2.symm]
              exact upd_same
            · rcases List.mem_append.mp m with m | m
              · exact fs' r (List.mem_append_left _ m)
              · rw [List.mem_singleton.mp m]
                exact fs' q (by simp)
            · rw [ext_in qlt rt, tk]
          · refine ⟨_, rfl, .inl ⟨rfl, _, SqL.of hG5⟩, _, rfl, _, rfl, _, rfl, d, _, rfl, dg hd5, len2, fun t2 nt2 => ?_⟩
            exact ⟨G, _, _, rfl, rfl, by rw [upd_ne (ne_of_none hG5 nt2)]; exact hG5, lv, app (fun r hr' => by rw [gl] at hr'; cases hr'; rw [← eb]; exact Bool.eq_false_iff.mpr h) _ rfl t2 nt2⟩
      · rintro σ H5 ⟨ds, vs, x2, x3, rfl, hG5, rd, okd, ld, fs, eqd, S5⟩
        rw [List.length_map] at ld eqd
        rw [List.take_length] at eqd
        refine ⟨_, rfl, G, _, rfl, .inl ⟨SqL.of hG5, fun b nb => ?_⟩⟩
        have SS : Stp [] H (upd H5 b (.tup vs)) := (S1.trans ((S.trans (Stp.loc nG ((S2.trans S3).trans S4 |>.nil.trans S5)))|>.new' nb))
        exact k b ds _ SS ⟨⟨vs, SqT.of upd_same, rd.stp (Stp.new nb _) Lsts.nil⟩, okd, by omega⟩ fun w => by rw [eqd, ent_in nD pm, eq]
/-! ### the texts of spans -/
theorem neat_tx {l : Txt} (h : Short l) : Neat (.str (tx l)) := .str (by rw [tx_len]; exact h.2) fun n m => by
  have m : n ∈ l := by simpa [tx] using m
  rcases h.1 n m with e | e | e <;> rw [e] <;> decide
theorem neat_pr {p : Pr} (h : PrS p) : Neat (prP p) := by
  obtain ⟨f, e⟩ := p
  refine .tup (.cons (neat_tx h.1) (.cons ?_ .nil))
  cases e with
  | none => exact .non
  | some e => exact neat_tx (h.2 e rfl)
theorem neat_prs : ∀ {ps : List Pr}, (∀ p ∈ ps, PrS p) → Neats (ps.map prP)
  | [], _ => .nil
  | p :: ps, h => .cons (neat_pr (h p List.mem_cons_self)) (neat_prs fun q m => h q (List.mem_cons_of_mem _ m))
theorem dW_pr (p : Pr) : dW (prP p) ≤ 812 := by
  obtain ⟨f, e⟩ := p
  cases e <;> simp [prP, dW, dWs]
theorem dW_prs : ∀ (ps : List Pr), dWs (ps.map prP) ≤ 814 * ps.length
  | [] => by simp [dWs]
  | p :: ps => by
    have a := dW_pr p
    have b := dW_prs ps
    simp only [List.map_cons, dWs, List.length_cons]
    omega
def shownP (ps : List Pr) : Str := (PyData.tuple (ps.map prP)).shown
theorem Spn.dp {K : PySem.W.Frag} {H : Hp} {a : Addr} {ps : List Pr} (h : Spn K H a ps) : Dp K H (.ref a) (.tuple (ps.map prP)) := by
  obtain ⟨vs, h1, h2⟩ := h.ex
  exact .tup h1 (prs_dp h2)
theorem spn_rep {K : PySem.W.Frag} {H : Hp} {a : Addr} {ps : List Pr} {Q : VK} (h : Spn K H a ps) (k : Q (.str (shownP ps)) H) : rNeat K [.ref a] H Q := by
  refine ⟨_, _, rfl, h.dp, .tup (neat_prs fun p m => (h.ok.ok p m).s), ?_, ?_, k⟩
  · have := depPs ps
    show PyData.depthAll _ + 1 ≤ 100
    omega
  · have := dW_prs ps
    have := h.few
    show dWs _ + 4 ≤ 10000000
    omega
/-- repr(a) != repr(b), one span -/
theorem Spn.new {K : PySem.W.Frag} {H : Hp} {t : Addr} {vs : List V} {ps : List Pr} (nt : H t = none) (r : RpL K H vs (ps.map prD)) (ok : SpOk ps) (few : ps.length ≤ 3000) : Spn K (upd H t (.tup vs)) t ps := ⟨⟨vs, SqT.of upd_same, r.stp (Stp.new nt []) Lsts.nil⟩, ok, few⟩
theorem Spn.up {K : PySem.W.Frag} {H H' : Hp} {a : Addr} {ps : List Pr} (h : Spn K H a ps) (s : Stp [] H H') : Spn K H' a ps := h.stp s Lsts.nil
theorem opps_w {ps : List Pr} (ok : SpOk ps) (w : Txt) : inS (opps [] ps) w = !inS ps w := opps_in ps [] w ok short_nil (fun _ _ => nil_le _) (nil_le _)
abbrev s_joined : Stmt := topS 21
abbrev N_joined : List Str := ["span", "other_span"]
theorem sc_joined : FnScope ["span", "other_span"] ["span", "other_span"] (defScope s_joined) := ⟨rfl, rfl, rfl, by decide +kernel, rfl, by decide +kernel, by decide +kernel⟩

abbrev s_shared : Stmt := topS 22
abbrev N_shared : List Str := ["span", "other_span"]
theorem sc_shared : FnScope ["span", "other_span"] ["span", "other_span"] (defScope s_shared) := ⟨rfl, rfl, rfl, by decide +kernel, rfl, by decide +kernel, by decide +kernel⟩

/-! ### joined, shared -/
def spJoined (K : PySem.W.Frag) : Sp := fun vs H Q _ => ∃ (a b : Addr) (ps qs : List Pr), vs = [.ref a, .ref b] ∧ Spn K H a ps ∧ Spn K H b qs ∧ ps.length + qs.length ≤ 3000 ∧ ∀ c ds H', Stp [] H H' → Spn K H' c ds → (∀ w, inS ds w = (inS ps w || inS qs w)) → Q (.ref c) H'
theorem cl_joined {f : Addr} {fd : FuncData} (D : Df K mg "joined" s_joined ["span", "other_span"] f fd) (T : Nm mg) (c_check_span : Cl P w K mg base 4 "check_span" s_check_span ["span"] (spCkSpan K)) (c_span_of : Cl P w K mg base 4 "span_of" s_span_of ["ranges"] (spSpanOf K)) :
    Cl P w K mg base 5 "joined" s_joined ["span", "other_span"] (spJoined K) := by
  refine D.cl sc_joined (fun vs H Q E h => ?_) (fun cdv A outer s H vs Q E hr h => ?_)
  · obtain ⟨a, b, ps, qs, rfl, _⟩ := h
    rfl
  · obtain ⟨a, b, ps, qs, rfl, sa, sb, few, k⟩ := h
    refine ⟨_, (pss_cons (ps_expr (pe_cl c_check_span hr (by omega) (pa_cons (pv 0) pa_nil)))
      (pss_cons (ps_expr (pe_cl c_check_span hr (by omega) (pa_cons (pv 1) pa_nil)))
      (pss_one (ps_ret (pe_cl c_span_of hr (by omega) (pa_cons (pe_lst (StX.pa_star (pv 0) (StX.pa_star (pv 1) pa_nil))) pa_nil)))))), ?_⟩
    refine ⟨_, rfl, a, ps, rfl, sa, fun H1 S1 => ?_⟩
    refine ⟨_, rfl, b, qs, rfl, sb.up S1, fun H2 S2 => ?_⟩
    have sa2 := (sa.up S1).up S2
    have sb2 := (sb.up S1).up S2
    obtain ⟨⟨xs, hx, rx⟩, okx, _⟩ := id sa2
    obtain ⟨⟨ys, hy, ry⟩, oky, _⟩ := id sb2
    refine ⟨_, rfl, a, xs, rfl, .inl hx, _, rfl, b, ys, rfl, .inl hy, ?_, fun l nl => ?_⟩
    · rw [List.append_nil, List.length_append, rx.len, ry.len, List.length_map, List.length_map]
      exact sz (by omega)
    rw [List.append_nil]
    have S3 : Stp [] H2 (upd H2 l (.lst (xs ++ ys))) := Stp.new nl _
    have r3 : RpL K (upd H2 l (.lst (xs ++ ys))) (xs ++ ys) ((ps ++ qs).map prD) := by
      rw [List.map_append]
      exact (rx.stp S3 Lsts.nil).app (ry.stp S3 Lsts.nil)
    refine ⟨l, _, ps ++ qs, rfl, upd_same, r3, fun p m => (List.mem_append.mp m).elim (okx.ok p) (oky.ok p), by rw [List.length_append]; omega, fun c ds H4 S4 sp eq => ?_⟩
    exact k c ds H4 (((S1.trans S2).trans S3).trans S4) sp fun w => by rw [eq, inS_app]
def spShared (K : PySem.W.Frag) : Sp := fun vs H Q _ => ∃ (a b : Addr) (ps qs : List Pr), vs = [.ref a, .ref b] ∧ Spn K H a ps ∧ Spn K H b qs ∧ ps.length + qs.length ≤ 2800 ∧ ∀ c ds H', Stp [] H H' → Spn K H' c ds → (∀ w, inS ds w = (inS ps w && inS qs w)) → ds.length ≤ ps.length + qs.length + 3 → Q (.ref c) H'
theorem cl_shared {f : Addr} {fd : FuncData} (D : Df K mg "shared" s_shared ["span", "other_span"] f fd) (T : Nm mg) (c_opposite : Cl P w K mg base 5 "opposite" s_opposite ["span"] (spOpp K)) (c_joined : Cl P w K mg base 5 "joined" s_joined ["span", "other_span"] (spJoined K)) :
    Cl P w K mg base 6 "shared" s_shared ["span", "other_span"] (spShared K) := by
  refine D.cl sc_shared (fun vs H Q E h => ?_) (fun cdv A outer s H vs Q E hr h => ?_)
  · obtain ⟨a, b, ps, qs, rfl, _⟩ := h
    rfl
  · obtain ⟨a, b, ps, qs, rfl, sa, sb, few, k⟩ := h
    refine ⟨_, (pss_one (ps_ret (pe_cl c_opposite hr (by omega) (pa_cons (pe_cl c_joined hr (by omega) (pa_cons (pe_cl c_opposite hr (by omega) (pa_cons (pv 0) pa_nil)) (pa_cons (pe_cl c_opposite hr (by omega) (pa_cons (pv 1) pa_nil)) pa_nil))) pa_nil)))), ?_⟩
    have l1 := opps_len ps []
    have l2 := opps_len qs []
    refine ⟨_, rfl, a, ps, rfl, sa, by omega, fun c1 H1 S1 sp1 => ?_⟩
    refine ⟨_, rfl, b, qs, rfl, sb.up S1, by omega, fun c2 H2 S2 sp2 => ?_⟩
    refine ⟨c1, c2, _, _, rfl, sp1.up S2, sp2, by omega, fun c3 ds H3 S3 sp3 eq3 => ?_⟩
    have l3 := norm_len (ps := opps [] ps ++ opps [] qs) sp3.ok fun w => by rw [eq3, inS_app]
    rw [List.length_append] at l3
    refine ⟨c3, ds, rfl, sp3, by omega, fun c4 H4 S4 sp4 => ?_⟩
    refine k c4 _ H4 (((S1.trans S2).trans S3).trans S4) sp4 (fun w => ?_) (by have := opps_len ds []; omega)
    rw [opps_w sp3.ok, eq3, opps_w sa.ok, opps_w sb.ok]
    cases inS ps w <;> cases inS qs w <;> rfl
abbrev s_check_text : Stmt := topS 12
abbrev N_check_text : List Str := ["text"]
theorem sc_check_text : FnScope ["text"] ["text"] (defScope s_check_text) := ⟨rfl, rfl, rfl, by decide +kernel, rfl, by decide +kernel, by decide +kernel⟩

abbrev s_behind : Stmt := topS 15
abbrev N_behind : List Str := ["text"]
theorem sc_behind : FnScope ["text"] ["text"] (defScope s_behind) := ⟨rfl, rfl, rfl, by decide +kernel, rfl, by decide +kernel, by decide +kernel⟩

/-! ### the program's own -/
def Lng (l : Txt) : Prop := Abc l ∧ l.length ≤ 1000
theorem Short.lng {l : Txt} (h : Short l) : Lng l := ⟨h.1, by have := h.2; omega⟩
def spCkTextL : Sp := fun vs H Q _ => ∃ l : Txt, vs = [Tx l] ∧ Lng l ∧ Q .non H
theorem cl_check_text {f : Addr} {fd : FuncData} (D : Df K mg "check_text" s_check_text ["text"] f fd) (T : Nm mg) (c_is_text : Cl P w K mg base 1 "is_text" s_is_text ["value"] (spIsText K)) : Cl P w K mg base 2 "check_text" s_check_text ["text"] spCkTextL := by
  refine D.cl sc_check_text (fun vs H Q E h => ?_) (fun cdv A outer s H vs Q E hr h => ?_)
  · obtain ⟨l, rfl, _⟩ := h
    rfl
  · obtain ⟨l, rfl, ⟨al, ll⟩, k⟩ := h
    refine ⟨_, (pss_one (ps_if (pt_not (pt_val (pe_cl c_is_text hr (by omega) (pa_cons (pv 0) pa_nil)))) (pss_one ps_never) pss_nil)), ?_⟩
    refine ⟨_, rfl, Tx l, .str l, rfl, .str l (by omega), fun b hb => ?_⟩
    obtain rfl : b = true := hb.mpr ⟨l, rfl, al⟩
    exact ⟨_, rfl, k⟩
def spBehind : Sp := fun vs H Q _ => ∃ l : Txt, vs = [Tx l] ∧ Lng l ∧ Q (Tx (l ++ [97])) H
theorem cl_behind {f : Addr} {fd : FuncData} (D : Df K mg "behind" s_behind ["text"] f fd) (T : Nm mg) (c_check_text : Cl P w K mg base 2 "check_text" s_check_text ["text"] spCkTextL) : Cl P w K mg base 3 "behind" s_behind ["text"] spBehind := by
  refine D.cl sc_behind (fun vs H Q E h => ?_) (fun cdv A outer s H vs Q E hr h => ?_)
  · obtain ⟨l, rfl, _⟩ := h
    rfl
  · obtain ⟨l, rfl, sl, k⟩ := h
    refine ⟨_, (pss_cons (ps_expr (pe_cl c_check_text hr (by omega) (pa_cons (pv 0) pa_nil)))
      (pss_one (ps_ret (pe_op op_add_str (pv 0) pe_str)))), ?_⟩
    refine ⟨_, rfl, l, rfl, sl, _, rfl, tx l, tx [97], rfl, congrArg V.str a_lit, (by rw [tx_len, tx_len]; exact sz (by have := sl.2; simp; omega)), ?_⟩
    rw [tx_app]
    exact k
abbrev s_least_text : Stmt := topS 23
abbrev N_least_text : List Str := ["span"]
theorem sc_least_text : FnScope ["span"] ["span"] (defScope s_least_text) := ⟨rfl, rfl, rfl, by decide +kernel, rfl, by decide +kernel, by decide +kernel⟩

def lvV : List Pr → V
  | [] => .non
  | p :: _ => Tx p.1
def spLeast (K : PySem.W.Frag) : Sp := fun vs H Q _ => ∃ (a : Addr) (ps : List Pr), vs = [.ref a] ∧ Spn K H a ps ∧ ∀ H', Stp [] H H' → Q (lvV ps) H'
theorem cl_least_text {f : Addr} {fd : FuncData} (D : Df K mg "least_text" s_least_text ["span"] f fd) (T : Nm mg) (c_check_span : Cl P w K mg base 4 "check_span" s_check_span ["span"] (spCkSpan K)) : Cl P w K mg base 5 "least_text" s_least_text ["span"] (spLeast K) := by
  refine D.cl sc_least_text (fun vs H Q E h => ?_) (fun cdv A outer s H vs Q E hr h => ?_)
  · obtain ⟨a, ps, rfl, _⟩ := h
    rfl
  · obtain ⟨a, ps, rfl, sp, k⟩ := h
    refine ⟨_, (pss_cons (ps_expr (pe_cl c_check_span hr (by omega) (pa_cons (pv 0) pa_nil)))
      (pss_one (ps_ret (pe_ifExp (pt_truth (pv 0) (by intro _; rfl)) (pe_ix ix_tup (pe_ix ix_tup (pv 0) pe_int (fun _ _ => rfl)) pe_int (fun _ _ => rfl)) pe_non)))), ?_⟩
    refine ⟨_, rfl, a, ps, rfl, sp, fun H1 S1 => ?_⟩
    obtain ⟨⟨xs, hs, rl⟩, ok, few⟩ := sp.stp S1 Lsts.nil
    have k1 := k H1 S1
    refine ⟨_, rfl, _, .inr (.inl ⟨xs, hs, rfl⟩), ?_⟩
    cases ps with
    | nil =>
      cases rl
      exact ite2 (fun h => nomatch (h : false = true)) (fun _ => k1)
    | cons p ps =>
      cases rl with
      | cons r1 rl =>
        obtain ⟨t, rfl, ht⟩ := rp_pr r1
        refine ite2 (fun _ => ?_) (fun h => absurd rfl h)
        exact ⟨_, rfl, a, _, 0, .ref t, rfl, rfl, hs, at0, t, _, 0, Tx p.1, rfl, rfl, ht, at0, k1⟩
abbrev s_beyond : Stmt := topS 16
abbrev N_beyond : List Str := ["text", "stem"]
theorem sc_beyond : FnScope ["text", "stem"] ["text"] (defScope s_beyond) := ⟨rfl, rfl, rfl, by decide +kernel, rfl, by decide +kernel, by decide +kernel⟩

def spBeyX : Sp := fun vs H Q _ => ∃ l : Txt, vs = [Tx l] ∧ Lng l ∧ Q (oV (beyR l)) H
theorem b_lit : ("b" : Str) = tx [98] := by decide +kernel
theorem c_lit9 : ("c" : Str) = tx [99] := by decide +kernel
theorem bey_none {l : List Nat} (h : cOff l = []) : bey l = none := by unfold bey; rw [if_pos h]
theorem bey_some {l i : List Nat} {c : Nat} (h : cOff l = i ++ [c]) : bey l = some (i ++ [c + 1]) := by
  unfold bey
  rw [h, if_neg (by simp)]
  simp
theorem cl_beyond {f : Addr} {fd : FuncData} (D : Df K mg "beyond" s_beyond ["text"] f fd) (T : Nm mg) (TG : Ng K w mg) (c_check_text : Cl P w K mg base 2 "check_text" s_check_text ["text"] spCkTextL) : Cl P w K mg base 3 "beyond" s_beyond ["text"] spBeyX := by
  refine D.cl sc_beyond (fun vs H Q E h => ?_) (fun cdv A outer s H vs Q E hr h => ?_)
  · obtain ⟨l, rfl, _⟩ := h
    rfl
  · obtain ⟨l, rfl, sl, k⟩ := h
    obtain ⟨al, ll⟩ := id sl
    refine ⟨_, (pss_cons (ps_expr (pe_cl c_check_text hr (by omega) (pa_cons (pv 0) pa_nil)))
      (pss_cons (ps_set (i := 1) sc_beyond.nd rfl (by first | exact Or.inl rfl | exact Or.inr rfl) (pe_bm PySem.F.plainAttrs_str PySem.F.slot_str_rstrip PySem.F.type_str_rstrip mt_rstripChars (pv 0) (pa_cons pe_str pa_nil)))
      (pss_one (ps_ret (pe_ifExp (pt_truth (pv 1) (by intro _; rfl)) (pe_op op_add_str (pe_slice sl_str (pv 1) po_none (po_some (pe_un un_neg pe_int))) (pe_ix ix_kdict (pe_glob (v := .ref TG.NEXT_LETTERS) rfl TG.g_NEXT_LETTERS rfl) (pe_ix ix_str (pv 1) (pe_un un_neg pe_int) (fun _ _ => rfl)) (fun _ _ => rfl))) pe_non))))), ?_⟩
    rw [← bey_eq _ l (Nat.le_refl _) al] at k
    refine ⟨_, rfl, l, rfl, sl, ?_⟩
    refine ⟨_, rfl, rfl, tx l, ("c" : Str), rfl, rfl, szt (by omega), ?_⟩
    rw [c_lit9, rstrip_c]
    have lo := cOff_len l
    have ao := abc_cOff al
    refine ⟨_, rfl, _, ⟨szt (by omega), rfl⟩, ite2 (fun h => ?_) (fun h => ?_)⟩
    · have ne : cOff l ≠ [] := fun e => by
        rw [e] at h
        exact absurd h (by decide)
      obtain ⟨i, c, hc, nc⟩ := cOff_last ne
      rw [bey_some hc] at k
      rw [hc] at lo ao
      rw [List.length_append, List.length_singleton] at lo
      have hcc : c = 97 ∨ c = 98 := by
        rcases ao c (by simp) with q | q | q
        · exact .inl q
        · exact .inr q
        · exact absurd q nc
      rw [hc]
      refine ⟨_, rfl, 1, rfl, -1, rfl, tx (i ++ [c]), rfl, szt (by simp; omega), ?_⟩
      rw [show cutS (tx (i ++ [c])) none (some (-1)) = _ from tx_init _, List.dropLast_concat]
      refine ⟨_, rfl, 1, rfl, tx (i ++ [c]), -1, c, rfl, rfl, szt (by simp; omega), atI_last i c, ?_⟩
      rcases hcc with rfl | rfl
      · refine ⟨_, tx [97], _, rfl, rfl, TG.na, tx i, tx [98], rfl, congrArg V.str b_lit, (by rw [tx_len, tx_len]; exact sz (by simp; omega)), ?_⟩
        rw [tx_app]
        exact k
      · refine ⟨_, tx [98], _, rfl, rfl, TG.nb, tx i, tx [99], rfl, congrArg V.str c_lit9, (by rw [tx_len, tx_len]; exact sz (by simp; omega)), ?_⟩
        rw [tx_app]
        exact k
    · have e : cOff l = [] := by
        cases hc : cOff l with
        | nil => rfl
        | cons x t =>
          rw [hc, tx_len] at h
          exact absurd (by simp; omega) h
      rw [bey_none e] at k
      exact k
abbrev s_joined_all : Stmt := topS 35
abbrev N_joined_all : List Str := ["spans", "span", "part"]
theorem sc_joined_all : FnScope ["spans", "span", "part"] ["spans"] (defScope s_joined_all) := ⟨rfl, rfl, rfl, by decide +kernel, rfl, by decide +kernel, by decide +kernel⟩

abbrev s_matching_texts : Stmt := topS 36
abbrev N_matching_texts : List Str := ["word", "wanted"]
theorem sc_matching_texts : FnScope ["word", "wanted"] ["word", "wanted"] (defScope s_matching_texts) := ⟨rfl, rfl, rfl, by decide +kernel, rfl, by decide +kernel, by decide +kernel⟩

/-! ### the spans of the filters -/
theorem pi_tupK {X : Cx} {K : PySem.W.Frag} (hK : X.K = K) {tg l : Expr} {tl : TE} (hl : PE X l tl) : PI X tg l (iTup K tl) := by
  subst hK
  exact pi_tup hl
theorem pi_listK {X : Cx} {K : PySem.W.Frag} (hK : X.K = K) {tg l : Expr} {tl : TE} (hl : PE X l tl) : PI X tg l (iList K tl) := by
  subst hK
  exact pi_list hl
theorem spn_one {H : Hp} {t t2 : Addr} {p : Pr} (nt2 : (upd H t (.tup [Tx p.1, oV p.2])) t2 = none) (ok : PrOk p) : Spn K (upd (upd H t (.tup [Tx p.1, oV p.2])) t2 (.tup [.ref t])) t2 [p] := by
  have ne : t ≠ t2 := ne_of_none upd_same nt2
  refine ⟨⟨[.ref t], SqT.of upd_same, .cons (pr_rp (SqT.of ?_) ok.1.2 fun e q => (ok.2 e q).1.2) .nil⟩, ⟨fun q m => by rw [List.mem_singleton.mp m]; exact ok, List.pairwise_singleton _ _⟩, by simp⟩
  rw [upd_ne ne]
  exact upd_same
theorem inS_one (p : Pr) (w : Txt) : inS [p] w = inP w p := by
  rw [inS_cons]
  exact Bool.or_false _
theorem spn_nil {H : Hp} {t : Addr} (nt : H t = none) : Spn K (upd H t (.tup [])) t [] := ⟨⟨[], SqT.of upd_same, .nil⟩, SpOk.nil, by simp⟩
def spMatch (K : PySem.W.Frag) : Sp := fun vs H Q _ => ∃ (wd : Str) (y : Txt), vs = [.str wd, Tx y] ∧ (wd = "is" ∨ wd = "below" ∨ wd = "above" ∨ wd = "begins") ∧ Abc y ∧ y.length ≤ 30 ∧
  ∀ b ds H', Stp [] H H' → Spn K H' b ds → (∀ w, Abc w → inS ds w = fits wd y w) → ds.length ≤ 1 → Q (.ref b) H'
theorem cl_matching_texts {f : Addr} {fd : FuncData} (D : Df K mg "matching_texts" s_matching_texts ["word", "wanted"] f fd) (T : Nm mg) (c_behind : Cl P w K mg base 3 "behind" s_behind ["text"] spBehind) (c_beyond : Cl P w K mg base 3 "beyond" s_beyond ["text"] spBeyX) : Cl P w K mg base 4 "matching_texts" s_matching_texts ["word", "wanted"] (spMatch K) := by
  refine D.cl sc_matching_texts (fun vs H Q E h => ?_) (fun cdv A outer s H vs Q E hr h => ?_)
  · obtain ⟨wd, y, rfl, _⟩ := h
    rfl
  · obtain ⟨wd, y, rfl, hw, ay, ly, k⟩ := h
    have ne : ∀ {a b : Str}, ¬ decide (V.str a = V.str b) = true → a ≠ b := fun h n => h (decide_eq_true (congrArg V.str n))
    have lng : Lng y := ⟨ay, by omega⟩
    have sy : Short y := ⟨ay, by omega⟩
    have sa : Short (y ++ [97]) := ⟨ay.app (Abc.one (.inl rfl)), by rw [List.length_append, List.length_singleton]; omega⟩
    have len2 : (2 : Nat) ≤ sizeLine := by decide
    have len1 : (1 : Nat) ≤ sizeLine := by decide
    have lts : y < y ++ [97] := by
      by_cases c : y < y ++ [97]
      · exact c
      · exact absurd ((snoc_le y y ay).mp (le_of_nlt c)) (List.lt_irrefl _)
    refine ⟨_, (pss_cons (ps_if (pt_cmpR op_eq (pv 0) pe_str (by first | exact nomark _ | rfl)) (pss_one (ps_ret (pe_tup (pa_cons (pe_tup (pa_cons (pv 1) (pa_cons (pe_cl c_behind hr (by omega) (pa_cons (pv 1) pa_nil)) pa_nil))) pa_nil)))) pss_nil)
      (pss_cons (ps_if (pt_cmpR op_eq (pv 0) pe_str (by first | exact nomark _ | rfl)) (pss_one (ps_ret (pe_tup (pa_cons (pe_tup (pa_cons (pe_cl c_behind hr (by omega) (pa_cons (pv 1) pa_nil)) (pa_cons pe_non pa_nil))) pa_nil)))) pss_nil)
      (pss_cons (ps_if (pt_cmpR op_eq (pv 0) pe_str (by first | exact nomark _ | rfl)) (pss_one (ps_ret (pe_tup (pa_cons (pe_tup (pa_cons (pv 1) (pa_cons (pe_cl c_beyond hr (by omega) (pa_cons (pv 1) pa_nil)) pa_nil))) pa_nil)))) pss_nil)
      (pss_one (ps_ret (pe_ifExp (pt_truth (pv 1) (by intro _; rfl)) (pe_tup (pa_cons (pe_tup (pa_cons pe_str (pa_cons (pv 1) pa_nil))) pa_nil)) (pe_tup pa_nil))))))), ?_⟩
    refine ⟨_, rfl, rfl, _, rfl, ite2 (fun h => ?_) (fun h => ?_)⟩
    · have e : wd = "is" := V.str.inj (of_decide_eq_true h)
      subst e
      refine ⟨_, rfl, _, rfl, y, rfl, lng, len2, fun t nt => ⟨len1, fun t2 nt2 => ?_⟩⟩
      refine k t2 [(y, some (y ++ [97]))] _ ((Stp.new nt []).new' nt2) (spn_one (p := (y, some (y ++ [97]))) nt2 ⟨sy, fun e q => by cases q; exact ⟨sa, lts⟩⟩) (fun w aw => ?_) (Nat.le_refl _)
      rw [inS_one, in_is aw]
      rfl
    refine ⟨_, rfl, rfl, _, rfl, ite2 (fun h2 => ?_) (fun h2 => ?_)⟩
    · have e : wd = "above" := V.str.inj (of_decide_eq_true h2)
      subst e
      refine ⟨_, rfl, y, rfl, lng, len2, fun t nt => ⟨len1, fun t2 nt2 => ?_⟩⟩
      refine k t2 [(y ++ [97], none)] _ ((Stp.new nt []).new' nt2) (spn_one (p := (y ++ [97], none)) nt2 ⟨sa, fun e q => by cases q⟩) (fun w aw => ?_) (Nat.le_refl _)
      rw [inS_one, in_above aw]
      rfl
    refine ⟨_, rfl, rfl, _, rfl, ite2 (fun h3 => ?_) (fun h3 => ?_)⟩
    · have e : wd = "begins" := V.str.inj (of_decide_eq_true h3)
      subst e
      refine ⟨_, rfl, _, rfl, y, rfl, lng, len2, fun t nt => ⟨len1, fun t2 nt2 => ?_⟩⟩
      refine k t2 [(y, beyR y)] _ ((Stp.new nt []).new' nt2) (spn_one (p := (y, beyR y)) nt2 ⟨sy, fun e q => ?_⟩) (fun w aw => ?_) (Nat.le_refl _)
      · obtain ⟨h1, h2, h3⟩ := beyR_ok ay q
        exact ⟨⟨h1, by omega⟩, h3⟩
      · rw [inS_one, in_begins y w ay aw]
        rfl
    have e : wd = "below" := by
      rcases hw with e | e | e | e
      · exact absurd e (ne h)
      · exact e
      · exact absurd e (ne h2)
      · exact absurd e (ne h3)
    subst e
    refine ⟨_, rfl, _, ⟨szt (by omega), rfl⟩, ite2 (fun h4 => ?_) (fun h4 => ?_)⟩
    · have y0 : y ≠ [] := fun e => by
        rw [e] at h4
        exact absurd h4 (by decide)
      have nl : ([] : Txt) < y := by
        cases y with
        | nil => exact absurd rfl y0
        | cons c y => exact List.nil_lt_cons c y
      refine ⟨_, rfl, len2, fun t nt => ⟨len1, fun t2 nt2 => ?_⟩⟩
      have e0 : V.str "" = Tx [] := congrArg V.str nil_lit
      rw [e0] at nt2 ⊢
      refine k t2 [([], some y)] _ ((Stp.new nt []).new' nt2) (spn_one (p := ([], some y)) nt2 ⟨short_nil, fun e q => by cases q; exact ⟨sy, nl⟩⟩) (fun w aw => ?_) (Nat.le_refl _)
      rw [inS_one, Bool.eq_iff_iff, inP_iff]
      show _ ↔ decide (w < y) = true
      rw [decide_eq_true_iff]
      exact ⟨fun h => h.2 y rfl, fun h => ⟨nil_le _, fun e q => by cases q; exact h⟩⟩
    · have y0 : y = [] := by
        cases y with
        | nil => rfl
        | cons c y =>
          rw [tx_len] at h4
          exact absurd (by simp; omega) h4
      subst y0
      refine ⟨Nat.zero_le _, fun t nt => ?_⟩
      refine k t [] _ (Stp.new nt []) (spn_nil nt) (fun w aw => ?_) (Nat.zero_le _)
      show false = decide (w < [])
      rw [decide_eq_false fun h => by cases h]
def spD (ps : List Pr) : Dt := .tup (ps.map prD)
theorem Spn.rp {H : Hp} {a : Addr} {ps : List Pr} (h : Spn K H a ps) : Rp K H (.ref a) (spD ps) := by
  obtain ⟨vs, h1, h2⟩ := h.ex
  refine .tup h1 ?_ h2
  have := h2.len
  rw [List.length_map] at this
  have := h.few
  omega
theorem rp_spn {H : Hp} {v : V} {ps : List Pr} (r : Rp K H v (spD ps)) (ok : SpOk ps) (few : ps.length ≤ 3000) : ∃ a, v = .ref a ∧ Spn K H a ps := by
  cases r with
  | tup h _ rl => exact ⟨_, rfl, ⟨⟨_, h, rl⟩, ok, few⟩⟩
def spJAll (K : PySem.W.Frag) : Sp := fun vs H Q _ => ∃ (L : Addr) (xs : List V) (pss : List (List Pr)), vs = [.ref L] ∧ SqL K H L xs ∧ RpL K H xs (pss.map spD) ∧ (∀ ps ∈ pss, ∀ p ∈ ps, PrOk p) ∧ pss.flatten.length ≤ 3000 ∧
  ∀ c ds H', Stp [] H H' → Spn K H' c ds → (∀ w, inS ds w = pss.any fun ps => inS ps w) → ds.length ≤ pss.flatten.length → Q (.ref c) H'
theorem inS_flat (w : Txt) : ∀ (pss : List (List Pr)), inS pss.flatten w = pss.any fun ps => inS ps w
  | [] => rfl
  | ps :: pss => by
    rw [List.flatten_cons, inS_app, List.any_cons, inS_flat w pss]
theorem cl_joined_all {f : Addr} {fd : FuncData} (D : Df K mg "joined_all" s_joined_all ["spans"] f fd) (T : Nm mg) (c_span_of : Cl P w K mg base 4 "span_of" s_span_of ["ranges"] (spSpanOf K)) : Cl P w K mg base 5 "joined_all" s_joined_all ["spans"] (spJAll K) := by
  refine D.cl sc_joined_all (fun vs H Q E h => ?_) (fun cdv A outer s H vs Q E hr h => ?_)
  · obtain ⟨L, xs, pss, rfl, _⟩ := h
    rfl
  · obtain ⟨L, xs, pss, rfl, hs, rl, ok, few, k⟩ := h
    refine ⟨_, (pss_one (ps_ret (pe_cl c_span_of hr (by omega) (pa_cons (pe_lc2 (own := [("span", 1), ("part", 2)]) (vs1 := [2]) rfl sc_joined_all.nd (pi_list (pv 0)) (blkOk_by (own := [("span", 1), ("part", 2)]) (N := N_joined_all) (sc := defScope s_joined_all) (by decide +kernel)) (by decide) (fun _ _ _ _ _ => (pg_name (i := 1) sc_joined_all.nd rfl (by first | exact Or.inl rfl | exact Or.inr rfl))) (fun _ _ _ _ _ => pts_nil) (fun _ _ _ _ _ => (pi_tupK (K := K) (tl := L2.tVar 1) rfl (pv 1))) (fun _ _ _ _ _ => (pg_name (i := 2) sc_joined_all.nd rfl (by first | exact Or.inl rfl | exact Or.inr rfl))) (fun _ _ _ _ _ => pts_nil) (fun _ _ _ _ _ => (pv 2))) pa_nil)))), ?_⟩
    have nn : ∀ {x : Addr}, x ∉ ([] : List Addr) := fun m => nomatch m
    have lx : xs.length = pss.length := by rw [rl.len, List.length_map]
    have flen : ∀ i, ((pss.take i).flatten).length ≤ pss.flatten.length := fun i => by
      conv => rhs; rw [← List.take_append_drop i pss]
      rw [List.flatten_append, List.length_append]
      omega
    have big : (5000 : Nat) < sizeLine := by decide
    refine ⟨_, rfl, L, rfl, ⟨_, hs⟩, fun D nD => ?_⟩
    refine ⟨fun i m H1 => m = xs.length - i ∧ i ≤ xs.length ∧ ∃ ws, H1 D = some (.lst ws) ∧ RpL K H1 ws ((pss.take i).flatten.map prD) ∧ Stp [] H H1, ⟨xs.length, by simp, Nat.zero_le _, [], upd_same, .nil, Stp.new nD _⟩, ?_⟩
    rintro i m H1 ⟨rfl, hi, ws, hD, rw1, S⟩
    by_cases hlt : i < xs.length
    · refine .inr ⟨⟨xs, xs[i], sql_up S hs, by simp [hlt]⟩, fun H' => i + 1 ≤ xs.length ∧ ∃ ws, H' D = some (.lst ws) ∧ RpL K H' ws ((pss.take (i + 1)).flatten.map prD) ∧ Stp [] H H', fun H' p' => ⟨xs.length - (i + 1), by omega, rfl, p'.1, p'.2⟩, fun x H' y => ?_⟩
      obtain ⟨e, y⟩ := y
      subst e
      have hx := y xs (sql_up S hs)
      obtain ⟨d, hd, rd⟩ := rl.get hx
      rw [List.getElem?_map] at hd
      obtain ⟨ps, hps⟩ : ∃ ps, pss[i]? = some ps := ⟨pss[i]'(by omega), List.getElem?_eq_getElem _⟩
      rw [hps] at hd
      cases hd
      have tk : (pss.take (i + 1)).flatten = (pss.take i).flatten ++ ps := by
        rw [List.take_add_one, hps, List.flatten_append]
        simp
      have fl1 := flen (i + 1)
      rw [tk, List.length_append] at fl1
      cases rd with
      | tup hb hn rb =>
        rename_i b ys
        have ly : ys.length = ps.length := by rw [rb.len, List.length_map]
        refine ⟨rfl, _, rfl, b, rfl, ⟨_, sqt_stp S Lsts.nil hb⟩, ?_⟩
        refine ⟨fun j k H2 => k = ys.length - j ∧ j ≤ ys.length ∧ ∃ ws, H2 D = some (.lst ws) ∧ RpL K H2 ws ((pss.take i).flatten.map prD ++ (ps.take j).map prD) ∧ Stp [] H H2, ⟨ys.length, by simp, Nat.zero_le _, ws, hD, ?_, S⟩, ?_⟩
        · rw [List.take_zero, List.map_nil, List.append_nil]
          exact rw1
        rintro j k2 H2 ⟨rfl, hj, ws2, hD2, rw2, S2⟩
        by_cases hlj : j < ys.length
        · refine .inr ⟨⟨ys, ys[j], sqt_stp S2 Lsts.nil hb, by simp [hlj]⟩, fun H' => j + 1 ≤ ys.length ∧ ∃ ws, H' D = some (.lst ws) ∧ RpL K H' ws ((pss.take i).flatten.map prD ++ (ps.take (j + 1)).map prD) ∧ Stp [] H H', fun H' p' => ⟨ys.length - (j + 1), by omega, rfl, p'.1, p'.2⟩, fun x1 H' y1 => ?_⟩
          obtain ⟨e, y1⟩ := y1
          subst e
          have hx1 := y1 ys (sqt_stp S2 Lsts.nil hb)
          obtain ⟨d1, hd1, rd1⟩ := rb.get hx1
          rw [List.getElem?_map] at hd1
          obtain ⟨p, hp⟩ : ∃ p, ps[j]? = some p := ⟨ps[j]'(by omega), List.getElem?_eq_getElem _⟩
          rw [hp] at hd1
          cases hd1
          have lw : ws2.length < sizeLine := by
            rw [rw2.len, List.length_append, List.length_map, List.length_map, List.length_take]
            omega
          have s4 : Stp [D] H' (upd H' D (.lst (ws2 ++ [x1]))) := Stp.put (by simp)
          refine ⟨rfl, _, rfl, ws2, hD2, lw, hlj, ws2 ++ [x1], upd_same, ?_, S2.mut nD⟩
          rw [List.take_add_one, hp, List.map_append, ← List.append_assoc]
          exact (rw2.stp s4 (.one hD2)).app (.cons ((rd1.stp S2 Lsts.nil).stp s4 (.one hD2)) .nil)
        · have ej : j = ys.length := by omega
          subst ej
          refine .inl ⟨⟨ys, sqt_stp S2 Lsts.nil hb, Nat.le_refl _⟩, hlt, ws2, hD2, ?_, S2⟩
          rw [tk, List.map_append]
          rw [ly, List.take_length] at rw2
          exact rw2
    · have ei : i = xs.length := by omega
      subst ei
      refine .inl ⟨⟨xs, sql_up S hs, Nat.le_refl _⟩, ?_⟩
      rw [lx, List.take_length] at rw1
      refine ⟨D, ws, pss.flatten, rfl, hD, rw1, fun p m => ?_, few, fun c ds H3 S3 sp eq => ?_⟩
      · obtain ⟨ps, mps, mp⟩ := List.mem_flatten.mp m
        exact ok ps mps p mp
      · exact k c ds H3 (S.trans S3) sp (fun w => by rw [eq, inS_flat]) (norm_len sp.ok eq)
abbrev s_passing_texts : Stmt := topS 34
abbrev N_passing_texts : List Str := ["query", "word", "part", "text"]
theorem sc_passing_texts : FnScope ["query", "word", "part", "text"] ["query"] (defScope s_passing_texts) := ⟨rfl, rfl, rfl, by decide +kernel, rfl, by decide +kernel, by decide +kernel⟩

/-! ### passing_texts -/
theorem lc_spnT {a : Addr} {xs : List V} {g : TG} {te : TE} {vs : List Nat} {σ : L2.St} {H1 : Hp} {D : Addr} {Qd : Hp → Prop} (G : Nat → List Pr → Prop) (nD : H1 D = none) (hs : SqT K H1 a xs) (hz : xs.length ≤ 100000)
    (step : ∀ (i : Nat) x H, xs[i]? = some x → Stp [] H1 H → ∀ Q : VK, (∀ y ps H', Stp [] H H' → Rp K H' y (spD ps) → G i ps → Q y H') → g x (wipe σ vs) H fun σ2 H2 => wipe σ2 vs = wipe σ vs ∧ te σ2 H2 Q)
    (hd : ∀ ws (pss : List (List Pr)) H, Stp [] H1 H → H D = some (.lst ws) → RpL K H ws (pss.map spD) → pss.length = xs.length → (∀ i ps, pss[i]? = some ps → G i ps) → Qd H) :
    ∃ W : Nat → Nat → Hp → Prop, (∃ m, W 0 m (upd H1 D (.lst []))) ∧ ∀ i m H, W i m H →
      ((Itt K a).stop i H ∧ Qd H) ∨ ((Itt K a).go i H ∧ ∃ Nx : Hp → Prop, (∀ H', Nx H' → ∃ m', m' < m ∧ W (i + 1) m' H') ∧ ∀ x H', (Itt K a).yld i H x H' → g x (wipe σ vs) H' fun σ2 H2 => wipe σ2 vs = wipe σ vs ∧ tYes σ2 H2 fun b H3 =>
        if b = true then te σ2 H3 fun y H4 => ∃ acc, H4 D = some (.lst acc) ∧ acc.length < sizeLine ∧ Nx (upd H4 D (.lst (acc ++ [y]))) else Nx H3) := by
  refine lc_tup (a := a) (xs := xs) (fun i H => ∃ ws, ∃ pss : List (List Pr), H D = some (.lst ws) ∧ RpL K H ws (pss.map spD) ∧ pss.length = i ∧ (∀ j ps, pss[j]? = some ps → G j ps) ∧ Stp [] H1 H) ⟨[], [], upd_same, .nil, rfl, fun j ps h => by simp at h, Stp.new nD _⟩ (fun i H _ ⟨_, _, _, _, _, _, S⟩ => sqt_stp S Lsts.nil hs) ?_ ?_
  · rintro i x H hi ⟨ws, pss, hL, rv, hl, hG, S⟩
    have il := (List.getElem?_eq_some_iff.mp hi).1
    refine step i x H hi S _ fun y ps H' S' ry gi => ?_
    have hL' := S'.kp _ _ (fun m => nomatch m) hL
    have s4 : Stp [D] H' (upd H' D (.lst (ws ++ [y]))) := Stp.put (by simp)
    refine ⟨ws, hL', ?_, ws ++ [y], pss ++ [ps], upd_same, ?_, by simp [hl], fun j q hq => ?_, (S.trans S').mut nD⟩
    · rw [rv.len, List.length_map, hl]
      exact Nat.lt_of_lt_of_le (show i < 100001 by omega) (by decide)
    · rw [List.map_append]
      exact ((rv.stp S' Lsts.nil).stp s4 (.one hL')).app (.cons (ry.stp s4 (.one hL')) .nil)
    · by_cases c : j < pss.length
      · rw [List.getElem?_append_left c] at hq
        exact hG j q hq
      · rw [List.getElem?_append_right (by omega)] at hq
        have := (List.getElem?_eq_some_iff.mp hq).1
        have ej : j = i := by simp at this; omega
        subst ej
        rw [hl, Nat.sub_self] at hq
        cases hq
        exact gi
  · rintro H ⟨ws, pss, hL, rv, hl, hG, S⟩
    exact hd ws pss H S hL rv hl hG
theorem par_any {α : Type} {f : List Pr → Bool} {g : α → Bool} : ∀ {pss : List (List Pr)} {ds : List α}, pss.length = ds.length → (∀ (i : Nat) (ps : List Pr), pss[i]? = some ps → ∃ d, ds[i]? = some d ∧ f ps = g d) → pss.any f = ds.any g
  | [], [], _, _ => rfl
  | ps :: pss, d :: ds, hl, h => by
    obtain ⟨d', e, h0⟩ := h 0 ps rfl
    cases e
    rw [List.any_cons, List.any_cons, h0, par_any (pss := pss) (ds := ds) (by simpa using hl) fun i ps e => h (i + 1) ps (by simpa using e)]
theorem par_len : ∀ {pss : List (List Pr)} {ds : List Dt}, pss.length = ds.length → (∀ (i : Nat) (ps : List Pr), pss[i]? = some ps → ∃ d, ds[i]? = some d ∧ ps.length ≤ wtD d) → pss.flatten.length ≤ wtL ds
  | [], [], _, _ => Nat.zero_le _
  | ps :: pss, d :: ds, hl, h => by
    obtain ⟨d', e, h0⟩ := h 0 ps rfl
    cases e
    have ih := par_len (pss := pss) (ds := ds) (by simpa using hl) fun i ps e => h (i + 1) ps (by simpa using e)
    rw [List.flatten_cons, List.length_append]
    show _ ≤ wtD d + wtL ds
    omega
def spPass (K : PySem.W.Frag) (n : Nat) : Sp := fun vs H Q _ => ∃ (v : V) (d : Dt), vs = [v] ∧ Rp K H v d ∧ Flt d ∧ d.dep < n ∧ tshD 30 d ∧ wtD d ≤ 2800 ∧
  ∀ b ds H', Stp [] H H' → Spn K H' b ds → (∀ w, Abc w → inS ds w = yesB n d w) → ds.length + 2 ≤ wtD d → Q (.ref b) H'
theorem pass_step {f : Addr} {fd : FuncData} (D : Df K mg "passing_texts" s_passing_texts ["query"] f fd) (T : Nm mg) (TG : Ng K w mg) {n m : Nat} (hm : 5 ≤ m) (c_opposite : Cl P w K mg base 5 "opposite" s_opposite ["span"] (spOpp K)) (c_joined_all : Cl P w K mg base 5 "joined_all" s_joined_all ["spans"] (spJAll K))
    (c_span_of : Cl P w K mg base 4 "span_of" s_span_of ["ranges"] (spSpanOf K)) (c_behind : Cl P w K mg base 3 "behind" s_behind ["text"] spBehind) (c_matching_texts : Cl P w K mg base 4 "matching_texts" s_matching_texts ["word", "wanted"] (spMatch K))
    (c_passing_texts : Cl P w K mg base m "passing_texts" s_passing_texts ["query"] (spPass K n)) : Cl P w K mg base (m + 1) "passing_texts" s_passing_texts ["query"] (spPass K (n + 1)) := by
  refine D.cl sc_passing_texts (fun vs H Q E h => ?_) (fun cdv A outer s H vs Q E hr h => ?_)
  · obtain ⟨v, d, rfl, _⟩ := h
    rfl
  · obtain ⟨v, d, rfl, r, fl, dp, ts, wt, k⟩ := h
    refine ⟨_, (pss_cons (ps_set (i := 1) sc_passing_texts.nd rfl (by first | exact Or.inl rfl | exact Or.inr rfl) (pe_ix ix_tup (pv 0) pe_int (fun _ _ => rfl)))
      (pss_cons (ps_if (pt_cmpR op_eq (pv 1) pe_str (by first | exact nomark _ | rfl)) (pss_one (ps_ret (pe_tup pa_nil))) pss_nil)
      (pss_cons (ps_if (pt_cmpR op_eq (pv 1) pe_str (by first | exact nomark _ | rfl)) (pss_one (ps_ret (pe_ifExp (pt_truth (pe_ix ix_tup (pv 0) pe_int (fun _ _ => rfl)) (by intro _; rfl)) (pe_glob (v := .ref TG.EVERY_TEXT) rfl TG.g_EVERY_TEXT rfl) (pe_tup pa_nil)))) pss_nil)
      (pss_cons (ps_if (pt_cmpR op_eq (pv 1) pe_str (by first | exact nomark _ | rfl)) (pss_one (ps_ret (pe_cl c_opposite hr (by omega) (pa_cons (pe_cl c_passing_texts hr (by omega) (pa_cons (pe_ix ix_tup (pv 0) pe_int (fun _ _ => rfl)) pa_nil)) pa_nil)))) pss_nil)
      (pss_cons (ps_if (pt_cmpR op_eq (pv 1) pe_str (by first | exact nomark _ | rfl)) (pss_one (ps_ret (pe_cl c_opposite hr (by omega) (pa_cons (pe_cl c_joined_all hr (by omega) (pa_cons (pe_lc (own := [("part", 2)]) rfl sc_passing_texts.nd (pi_tup (pe_ix ix_tup (pv 0) pe_int (fun _ _ => rfl))) (blkOk_by (own := [("part", 2)]) (N := N_passing_texts) (sc := defScope s_passing_texts) (by decide +kernel)) (fun _ _ _ _ _ => (pg_name (i := 2) sc_passing_texts.nd rfl (by first | exact Or.inl rfl | exact Or.inr rfl))) (fun _ _ _ _ _ => pts_nil) (fun _ _ _ _ _ => (pe_cl c_opposite hr (by omega) (pa_cons (pe_cl c_passing_texts hr (by omega) (pa_cons (pv 2) pa_nil)) pa_nil)))) pa_nil)) pa_nil)))) pss_nil)
      (pss_cons (ps_if (pt_cmpR op_eq (pv 1) pe_str (by first | exact nomark _ | rfl)) (pss_one (ps_ret (pe_cl c_joined_all hr (by omega) (pa_cons (pe_lc (own := [("part", 2)]) rfl sc_passing_texts.nd (pi_tup (pe_ix ix_tup (pv 0) pe_int (fun _ _ => rfl))) (blkOk_by (own := [("part", 2)]) (N := N_passing_texts) (sc := defScope s_passing_texts) (by decide +kernel)) (fun _ _ _ _ _ => (pg_name (i := 2) sc_passing_texts.nd rfl (by first | exact Or.inl rfl | exact Or.inr rfl))) (fun _ _ _ _ _ => pts_nil) (fun _ _ _ _ _ => (pe_cl c_passing_texts hr (by omega) (pa_cons (pv 2) pa_nil)))) pa_nil)))) pss_nil)
      (pss_cons (ps_if (pt_cmpR op_eq (pv 1) pe_str (by first | exact nomark _ | rfl)) (pss_one (ps_ret (pe_cl c_span_of hr (by omega) (pa_cons (pe_lc (own := [("text", 3)]) rfl sc_passing_texts.nd (pi_tup (pe_ix ix_tup (pv 0) pe_int (fun _ _ => rfl))) (blkOk_by (own := [("text", 3)]) (N := N_passing_texts) (sc := defScope s_passing_texts) (by decide +kernel)) (fun _ _ _ _ _ => (pg_name (i := 3) sc_passing_texts.nd rfl (by first | exact Or.inl rfl | exact Or.inr rfl))) (fun _ _ _ _ _ => pts_nil) (fun _ _ _ _ _ => (pe_tup (pa_cons (pv 3) (pa_cons (pe_cl c_behind hr (by omega) (pa_cons (pv 3) pa_nil)) pa_nil))))) pa_nil)))) pss_nil)
      (pss_one (ps_ret (pe_cl c_matching_texts hr (by omega) (pa_cons (pv 1) (pa_cons (pe_ix ix_tup (pv 0) pe_int (fun _ _ => rfl)) pa_nil)))))))))))), ?_⟩
    have nf : ∀ {a b : Str}, a ≠ b → ¬ decide (V.str a = V.str b) = true := fun n h => n (V.str.inj (of_decide_eq_true h))
    have tf : ∀ {a : Str}, decide (V.str a = V.str a) = true := decide_eq_true rfl
    have len2 : (2 : Nat) ≤ sizeLine := by decide
    have nn : ∀ {x : Addr}, x ∉ ([] : List Addr) := fun m => nomatch m
    cases fl with
    | none =>
      obtain ⟨a, rfl, hs⟩ := rp1 r
      refine ⟨_, rfl, a, _, 0, _, rfl, rfl, hs, at0, ?_⟩
      refine ⟨_, rfl, rfl, _, rfl, ite2 (fun _ => ?_) (fun h => absurd tf h)⟩
      exact ⟨Nat.zero_le _, fun t nt => k t [] _ (Stp.new nt []) (spn_nil nt) (fun w _ => (yes_none n w).symm) (by decide)⟩
    | say b =>
      obtain ⟨a, u, rfl, hs, ru⟩ := rp2 r
      cases ru
      refine ⟨_, rfl, a, _, 0, _, rfl, rfl, hs, at0, ?_⟩
      refine ⟨_, rfl, rfl, _, rfl, ite2 (fun h => absurd h (nf (by decide +kernel))) (fun _ => ?_)⟩
      refine ⟨_, rfl, rfl, _, rfl, ite2 (fun _ => ?_) (fun h => absurd tf h)⟩
      refine ⟨_, rfl, a, _, 1, _, rfl, rfl, hs, at1, b, rfl, ?_⟩
      cases b with
      | true =>
        refine ite2 (fun _ => ?_) (fun h => absurd rfl h)
        have e1 : ∀ H', SqT K H' TG.EV1 [Tx [], .non] := fun H' => by
          have := TG.ev1 H'
          rwa [show V.str "" = Tx [] from congrArg V.str nil_lit] at this
        refine k TG.EVERY_TEXT [([], none)] H (Stp.refl _ _) ⟨⟨_, TG.ev H, .cons (pr_rp (p := ([], none)) (e1 H) (by simp) fun e q => by cases q) .nil⟩, ⟨fun p m => ?_, List.pairwise_singleton _ _⟩, by simp⟩ (fun w _ => ?_) (by decide)
        · rw [List.mem_singleton.mp m]
          exact ⟨short_nil, fun e q => by cases q⟩
        · rw [yes_say, inS_one, inP_iff.mpr ⟨nil_le _, fun e q => by cases q⟩]
      | false =>
        refine ite2 (fun h => absurd h (by decide)) (fun _ => ?_)
        exact ⟨Nat.zero_le _, fun t nt => k t [] _ (Stp.new nt []) (spn_nil nt) (fun w _ => (yes_say n false w).symm) (by decide)⟩
    | not f =>
      obtain ⟨a, u, rfl, hs, ru⟩ := rp2 r
      rename_i d1
      have w1 : wtD (.tup [.str ("not" : Str).cps.toList, d1]) = 1 + wtD d1 + 2 := rfl
      refine ⟨_, rfl, a, _, 0, _, rfl, rfl, hs, at0, ?_⟩
      refine ⟨_, rfl, rfl, _, rfl, ite2 (fun h => absurd h (nf (by decide +kernel))) (fun _ => ?_)⟩
      refine ⟨_, rfl, rfl, _, rfl, ite2 (fun h => absurd h (nf (by decide +kernel))) (fun _ => ?_)⟩
      refine ⟨_, rfl, rfl, _, rfl, ite2 (fun _ => ?_) (fun h => absurd tf h)⟩
      refine ⟨_, rfl, a, _, 1, u, rfl, rfl, hs, at1, u, d1, rfl, ru, f, dep_two dp, ts.2.1, by omega, fun b ds H1 S1 sp eq le => ?_⟩
      have ol := opps_len ds []
      refine ⟨b, ds, rfl, sp, by omega, fun b2 H2 S2 sp2 => k b2 _ H2 (S1.trans S2) sp2 (fun w aw => ?_) (by omega)⟩
      rw [opps_w sp.ok, eq w aw, yes_not]
    | @among ds m =>
      have tw := txw_among
      obtain ⟨a, u, rfl, hs, ru⟩ := rp2 r
      refine ⟨_, rfl, a, _, 0, _, rfl, rfl, hs, at0, ?_⟩
      refine ⟨_, rfl, rfl, _, rfl, ite2 (fun h => absurd h (nf tw.1)) (fun _ => ?_)⟩
      refine ⟨_, rfl, rfl, _, rfl, ite2 (fun h => absurd h (nf tw.2.1)) (fun _ => ?_)⟩
      refine ⟨_, rfl, rfl, _, rfl, ite2 (fun h => absurd h (nf tw.2.2.1)) (fun _ => ?_)⟩
      refine ⟨_, rfl, rfl, _, rfl, ite2 (fun h => absurd h (nf tw.2.2.2.1)) (fun _ => ?_)⟩
      refine ⟨_, rfl, rfl, _, rfl, ite2 (fun h => absurd h (nf tw.2.2.2.2)) (fun _ => ?_)⟩
      refine ⟨_, rfl, rfl, _, rfl, ite2 (fun _ => ?_) (fun h => absurd tf h)⟩
      cases ru with
      | tup hs2 hl rl =>
        rename_i b2 us
        obtain ⟨ys, rfl⟩ := txs_of m
        have w1 : wtD (.tup [.str ("among" : Str).cps.toList, .tup (ys.map Dt.str)]) = 1 + (wtL (ys.map Dt.str) + 2) + 2 := rfl
        rw [wt_strs] at w1
        have eu := rpl_strs rl
        have abs : ∀ y ∈ ys, Abc y ∧ y.length ≤ 30 := fun y my => by
          refine ⟨?_, tsh_mem (ds := ys.map Dt.str) ts.2.1 (List.mem_map.mpr ⟨y, my, rfl⟩)⟩
          obtain ⟨l, e, al⟩ := m (.str y) (List.mem_map.mpr ⟨y, my, rfl⟩)
          cases e
          exact al
        have lu : us.length = ys.length := by rw [eu, List.length_map]
        have prk : ∀ y ∈ ys, PrOk (y, some (y ++ [97])) := fun y my => by
          obtain ⟨ay, ly⟩ := abs y my
          refine ⟨⟨ay, by show y.length ≤ 40; omega⟩, fun e q => ?_⟩
          cases q
          refine ⟨⟨ay.app (Abc.one (.inl rfl)), by rw [List.length_append, List.length_singleton]; omega⟩, ?_⟩
          show y < y ++ [97]
          by_cases c : y < y ++ [97]
          · exact c
          · exact absurd ((snoc_le y y ay).mp (le_of_nlt c)) (List.lt_irrefl _)
        refine ⟨_, rfl, a, _, 1, _, rfl, rfl, hs, at1, b2, rfl, ⟨_, hs2⟩, fun L nL => ?_⟩
        refine lc_mapT9 (ds := (ys.map fun y => ((y, some (y ++ [97])) : Pr)).map prD) nL hs2 (by rw [List.length_map, List.length_map, lu]) (by omega) (fun j x dd H3 hx hd S3 Q2 q => ?_) fun ws H3 S3 h3 r3 => ?_
        · rw [eu, List.getElem?_map] at hx
          rw [List.getElem?_map, List.getElem?_map] at hd
          cases e : ys[j]? with
          | none => rw [e] at hx; cases hx
          | some y =>
            rw [e] at hx hd
            cases hx
            cases hd
            have pk := prk y (List.mem_of_getElem? e)
            have ab := abs y (List.mem_of_getElem? e)
            refine ⟨rfl, _, rfl, _, rfl, y, rfl, ⟨ab.1, by omega⟩, len2, fun t nt => q _ _ (Stp.new nt []) (pr_rp (p := (y, some (y ++ [97]))) (SqT.of upd_same) pk.1.2 fun e q => (pk.2 e q).1.2)⟩
        · refine ⟨L, ws, _, rfl, h3, r3, fun p mp => ?_, by rw [List.length_map]; omega, fun b ds H4 S4 sp eq => ?_⟩
          · obtain ⟨y, my, rfl⟩ := List.mem_map.mp mp
            exact prk y my
          · have nl := norm_len sp.ok eq
            rw [List.length_map] at nl
            refine k b ds H4 (S3.trans S4) sp (fun w aw => ?_) (by omega)
            rw [eq, yes_among]
            unfold inS
            rw [List.any_map, Bool.eq_iff_iff, List.any_eq_true, decide_eq_true_iff]
            constructor
            · rintro ⟨y, my, h⟩
              have h : inP w (y, some (y ++ [97])) = true := h
              rw [in_is aw, decide_eq_true_iff] at h
              exact h ▸ my
            · exact fun h => ⟨w, h, by show inP w (w, some (w ++ [97])) = true; rw [in_is aw]; exact decide_eq_true rfl⟩
    | @many wd ds hw m =>
      obtain ⟨a, u, rfl, hs, ru⟩ := rp2 r
      cases ru with
      | tup hs2 hl rl =>
        rename_i b2 us
        have w1 : wtD (.tup [.str wd.cps.toList, .tup ds]) = 1 + (wtL ds + 2) + 2 := rfl
        have lu : us.length = ds.length := rl.len
        have stepd : ∀ {j : Nat} {x : V} {H3 : Hp} {Q2 : VK}, us[j]? = some x → Stp [] H H3 → (∀ b ps H', Stp [] H3 H' → Spn K H' b ps → (∃ d, ds[j]? = some d ∧ (∀ w, Abc w → inS ps w = yesB n d w) ∧ ps.length + 2 ≤ wtD d) → Q2 (.ref b) H') →
            spPass K n [x] H3 Q2 E0 := fun {j x H3 Q2} hx S3 q => by
          obtain ⟨e', he, re⟩ := rl.get hx
          have mem := List.mem_of_getElem? he
          have := wt_mem mem
          exact ⟨x, e', rfl, re.stp S3 Lsts.nil, m e' mem, dep_in dp mem, tsh_mem (ds := ds) ts.2.1 mem, by omega, fun b ps H4 S4 sp eq le => q b ps H4 S4 sp ⟨e', he, eq, le⟩⟩
        rcases hw with rfl | rfl
        · refine ⟨_, rfl, a, _, 0, _, rfl, rfl, hs, at0, ?_⟩
          refine ⟨_, rfl, rfl, _, rfl, ite2 (fun h => absurd h (nf (by decide +kernel))) (fun _ => ?_)⟩
          refine ⟨_, rfl, rfl, _, rfl, ite2 (fun h => absurd h (nf (by decide +kernel))) (fun _ => ?_)⟩
          refine ⟨_, rfl, rfl, _, rfl, ite2 (fun h => absurd h (nf (by decide +kernel))) (fun _ => ?_)⟩
          refine ⟨_, rfl, rfl, _, rfl, ite2 (fun _ => ?_) (fun h => absurd tf h)⟩
          refine ⟨_, rfl, a, _, 1, _, rfl, rfl, hs, at1, b2, rfl, ⟨_, hs2⟩, fun L nL => ?_⟩
          refine lc_spnT (fun i ps => ∃ d, ds[i]? = some d ∧ SpOk ps ∧ (∀ w, Abc w → inS ps w = !yesB n d w) ∧ ps.length + 1 ≤ wtD d) nL hs2 (by omega) (fun j x H3 hx S3 Q2 q => ?_) fun ws pss H3 S3 h3 r3 hl3 hG => ?_
          · refine ⟨rfl, _, rfl, ?_⟩
            dsimp only [tNil]
            refine stepd hx S3 fun b ps H4 S4 sp ⟨d, hd, eq, le⟩ => ?_
            have ol := opps_len ps []
            have := wt_mem (List.mem_of_getElem? hd)
            exact ⟨b, ps, rfl, sp, by omega, fun b2 H5 S5 sp2 => q _ _ H5 (S4.trans S5) sp2.rp ⟨d, hd, sp2.ok, fun w aw => by rw [opps_w sp.ok, eq w aw], by omega⟩⟩
          · have fl := par_len (pss := pss) (ds := ds) (by rw [hl3, lu]) fun i ps e => by
              obtain ⟨d, h1, _, _, h2⟩ := hG i ps e
              exact ⟨d, h1, by omega⟩
            refine ⟨L, ws, pss, rfl, SqL.of h3, r3, fun ps mp p mp2 => ?_, by omega, fun c cs H4 S4 sp eq le => ?_⟩
            · obtain ⟨i, hi, e⟩ := List.mem_iff_getElem.mp mp
              obtain ⟨d, _, h1, _⟩ := hG i ps (by rw [List.getElem?_eq_getElem hi, e])
              exact h1.ok p mp2
            · have ol := opps_len cs []
              refine ⟨c, cs, rfl, sp, by omega, fun b5 H5 S5 sp5 => k b5 _ H5 ((S3.trans S4).trans S5) sp5 (fun w aw => ?_) (by omega)⟩
              rw [opps_w sp.ok, eq, yes_and, par_any (g := fun d => !yesB n d w) (by rw [hl3, lu]) fun i ps e => by
                obtain ⟨d, h1, _, h2, _⟩ := hG i ps e
                exact ⟨d, h1, h2 w aw⟩]
              rw [Bool.eq_iff_iff, Bool.not_eq_true', List.any_eq_false, List.all_eq_true]
              exact ⟨fun h d md => by have := h d md; simpa using this, fun h d md => by have := h d md; simpa using this⟩
        · refine ⟨_, rfl, a, _, 0, _, rfl, rfl, hs, at0, ?_⟩
          refine ⟨_, rfl, rfl, _, rfl, ite2 (fun h => absurd h (nf (by decide +kernel))) (fun _ => ?_)⟩
          refine ⟨_, rfl, rfl, _, rfl, ite2 (fun h => absurd h (nf (by decide +kernel))) (fun _ => ?_)⟩
          refine ⟨_, rfl, rfl, _, rfl, ite2 (fun h => absurd h (nf (by decide +kernel))) (fun _ => ?_)⟩
          refine ⟨_, rfl, rfl, _, rfl, ite2 (fun h => absurd h (nf (by decide +kernel))) (fun _ => ?_)⟩
          refine ⟨_, rfl, rfl, _, rfl, ite2 (fun _ => ?_) (fun h => absurd tf h)⟩
          refine ⟨_, rfl, a, _, 1, _, rfl, rfl, hs, at1, b2, rfl, ⟨_, hs2⟩, fun L nL => ?_⟩
          refine lc_spnT (fun i ps => ∃ d, ds[i]? = some d ∧ SpOk ps ∧ (∀ w, Abc w → inS ps w = yesB n d w) ∧ ps.length + 2 ≤ wtD d) nL hs2 (by omega) (fun j x H3 hx S3 Q2 q => ⟨rfl, _, rfl, stepd hx S3 fun b ps H4 S4 sp ⟨d, hd, eq, le⟩ => q _ _ H4 S4 sp.rp ⟨d, hd, sp.ok, eq, le⟩⟩) fun ws pss H3 S3 h3 r3 hl3 hG => ?_
          have fl := par_len (pss := pss) (ds := ds) (by rw [hl3, lu]) fun i ps e => by
            obtain ⟨d, h1, _, _, h2⟩ := hG i ps e
            exact ⟨d, h1, by omega⟩
          refine ⟨L, ws, pss, rfl, SqL.of h3, r3, fun ps mp p mp2 => ?_, by omega, fun c cs H4 S4 sp eq le => ?_⟩
          · obtain ⟨i, hi, e⟩ := List.mem_iff_getElem.mp mp
            obtain ⟨d, _, h1, _⟩ := hG i ps (by rw [List.getElem?_eq_getElem hi, e])
            exact h1.ok p mp2
          · refine k c cs H4 (S3.trans S4) sp (fun w aw => ?_) (by omega)
            rw [eq, yes_or]
            exact par_any (by rw [hl3, lu]) fun i ps e => by
              obtain ⟨d, h1, _, h2, _⟩ := hG i ps e
              exact ⟨d, h1, h2 w aw⟩
    | @tx wd l hw ha =>
      obtain ⟨tw, na⟩ := txw_tx hw
      obtain ⟨a, u, rfl, hs, ru⟩ := rp2 r
      cases ru
      have w1 : wtD (.tup [.str wd.cps.toList, .str l]) = 1 + 1 + 2 := rfl
      refine ⟨_, rfl, a, _, 0, _, rfl, rfl, hs, at0, ?_⟩
      refine ⟨_, rfl, rfl, _, rfl, ite2 (fun h => absurd h (nf tw.1)) (fun _ => ?_)⟩
      refine ⟨_, rfl, rfl, _, rfl, ite2 (fun h => absurd h (nf tw.2.1)) (fun _ => ?_)⟩
      refine ⟨_, rfl, rfl, _, rfl, ite2 (fun h => absurd h (nf tw.2.2.1)) (fun _ => ?_)⟩
      refine ⟨_, rfl, rfl, _, rfl, ite2 (fun h => absurd h (nf tw.2.2.2.1)) (fun _ => ?_)⟩
      refine ⟨_, rfl, rfl, _, rfl, ite2 (fun h => absurd h (nf tw.2.2.2.2)) (fun _ => ?_)⟩
      refine ⟨_, rfl, rfl, _, rfl, ite2 (fun h => absurd h (nf na)) (fun _ => ?_)⟩
      refine ⟨_, rfl, _, rfl, a, _, 1, _, rfl, rfl, hs, at1, wd, l, rfl, hw, ha, ts.2.1, fun b ds H1 S1 sp eq le => k b ds H1 S1 sp (fun w aw => ?_) (by omega)⟩
      rw [eq w aw, yes_tx n hw]
theorem pass_all {f : Addr} {fd : FuncData} (D : Df K mg "passing_texts" s_passing_texts ["query"] f fd) (T : Nm mg) (TG : Ng K w mg) (c_opposite : Cl P w K mg base 5 "opposite" s_opposite ["span"] (spOpp K)) (c_joined_all : Cl P w K mg base 5 "joined_all" s_joined_all ["spans"] (spJAll K))
    (c_span_of : Cl P w K mg base 4 "span_of" s_span_of ["ranges"] (spSpanOf K)) (c_behind : Cl P w K mg base 3 "behind" s_behind ["text"] spBehind) (c_matching_texts : Cl P w K mg base 4 "matching_texts" s_matching_texts ["word", "wanted"] (spMatch K)) : ∀ n : Nat, Cl P w K mg base (n + 5) "passing_texts" s_passing_texts ["query"] (spPass K n)
  | 0 => cl_never D (fun vs H Q E ⟨v, d, _, _, _, hd, _⟩ => Nat.not_lt_zero _ hd) _
  | n + 1 => pass_step D T TG (by omega) c_opposite c_joined_all c_span_of c_behind c_matching_texts (pass_all D T TG c_opposite c_joined_all c_span_of c_behind c_matching_texts n)
abbrev s_passes : Stmt := topS 40
abbrev N_passes : List Str := ["query", "value"]
theorem sc_passes : FnScope ["query", "value"] ["query", "value"] (defScope s_passes) := ⟨rfl, rfl, rfl, by decide +kernel, rfl, by decide +kernel, by decide +kernel⟩

theorem ans_all {f : Addr} {fd : FuncData} (D : Df K mg "answer_to" s_answer_to ["query", "value"] f fd) (T : Nm mg) (TG : Ng K w mg) (c_yes_or_no : Cl P w K mg base 1 "yes_or_no" s_yes_or_no ["holds"] spYes) (c_settled : Cl P w K mg base 1 "settled" s_settled ["answers", "deciding", "otherwise"] (spSet K))
    (c_matches : Cl P w K mg base 1 "matches" s_matches ["word", "wanted", "text"] (spMat K)) : ∀ n : Nat, Cl P w K mg base (n + 1) "answer_to" s_answer_to ["query", "value"] (spAns K n)
  | 0 => cl_never D (fun vs H Q E ⟨v, d, _, _, _, _, hd, _⟩ => Nat.not_lt_zero _ hd) 1
  | n + 1 => ans_step D T TG (by omega) c_yes_or_no c_settled c_matches (ans_all D T TG c_yes_or_no c_settled c_matches n)
def spPas (K : PySem.W.Frag) (n : Nat) : Sp := fun vs H Q _ => ∃ (v : V) (d : Dt) (t : Vl), vs = [v, oV t] ∧ Rp K H v d ∧ Flt d ∧ d.dep < n ∧ OkV t ∧ ∀ H', Stp [] H H' → Q (.bl (decide (lev n t d = 2))) H'
theorem cl_passes {f : Addr} {fd : FuncData} {n m : Nat} (D : Df K mg "passes" s_passes ["query", "value"] f fd) (T : Nm mg) (c_answer_to : Cl P w K mg base m "answer_to" s_answer_to ["query", "value"] (spAns K n)) : Cl P w K mg base (m + 1) "passes" s_passes ["query", "value"] (spPas K n) := by
  refine D.cl sc_passes (fun vs H Q E h => ?_) (fun cdv A outer s H vs Q E hr h => ?_)
  · obtain ⟨v, d, t, rfl, _⟩ := h
    rfl
  · obtain ⟨v, d, t, rfl, r, fl, dp, ok, k⟩ := h
    refine ⟨_, (pss_one (ps_ret (pe_cmpR op_eq (pe_cl c_answer_to hr (by omega) (pa_cons (pv 0) (pa_cons (pv 1) pa_nil))) pe_str (by first | exact nomark _ | rfl)))), ?_⟩
    refine ⟨_, rfl, _, rfl, v, d, t, rfl, r, fl, dp, ok, fun H1 S1 => ⟨rfl, ?_⟩⟩
    have e : decide (V.str (ansW (lev n t d)) = V.str "yes") = decide (lev n t d = 2) := by
      rcases lev_in n t d with g | g | g <;> rw [g] <;> decide +kernel
    rw [e]
    exact k H1 S1
theorem seq_end {t u : TS} {D : Ends} {σ : L2.St} {H : Hp} (I : L2.St → Hp → Prop) (fin : ∀ σ' H', I σ' H' → u D σ' H') (h : (∀ σ' H', I σ' H' → u D σ' H') → t { D with nx := u D } σ H) : tSeq t u D σ H := h fin
abbrev s_selection : Stmt := topS 33
abbrev N_selection : List Str := ["query"]
theorem sc_selection : FnScope ["query"] ["query"] (defScope s_selection) := ⟨rfl, rfl, rfl, by decide +kernel, rfl, by decide +kernel, by decide +kernel⟩

abbrev s_alike : Stmt := topS 37
abbrev N_alike : List Str := ["one", "other"]
theorem sc_alike : FnScope ["one", "other"] ["one", "other"] (defScope s_alike) := ⟨rfl, rfl, rfl, by decide +kernel, rfl, by decide +kernel, by decide +kernel⟩

/-! ### selection -/
structure Fil (K : PySem.W.Frag) (n : Nat) (H : Hp) (v : V) (d : Dt) : Prop where
  rp : Rp K H v d
  fl : Flt d
  dp : d.dep < n
  ts : tshD 30 d
  wt : wtD d ≤ 2000
theorem Fil.up {n : Nat} {H H' : Hp} {v : V} {d : Dt} (h : Fil K n H v d) (s : Stp [] H H') : Fil K n H' v d := ⟨h.rp.stp s Lsts.nil, h.fl, h.dp, h.ts, h.wt⟩
def spSel (K : PySem.W.Frag) (n : Nat) : Sp := fun vs H Q _ => ∃ (v : V) (d : Dt), vs = [v] ∧ Fil K n H v d ∧
  ∀ t b ds H', Stp [] H H' → SqT K H' t [.str (ansW (lev n none d)), .ref b] → Spn K H' b ds → (∀ w, Abc w → inS ds w = yesB n d w) → ds.length ≤ wtD d → Q (.ref t) H'
theorem cl_selection {f : Addr} {fd : FuncData} {n m : Nat} (D : Df K mg "selection" s_selection ["query"] f fd) (T : Nm mg) (c_check_filter : Cl P w K mg base m "check_filter" s_check_filter ["query"] (spCkF K n)) (c_answer_to : Cl P w K mg base m "answer_to" s_answer_to ["query", "value"] (spAns K n))
    (c_passing_texts : Cl P w K mg base m "passing_texts" s_passing_texts ["query"] (spPass K n)) : Cl P w K mg base (m + 1) "selection" s_selection ["query"] (spSel K n) := by
  refine D.cl sc_selection (fun vs H Q E h => ?_) (fun cdv A outer s H vs Q E hr h => ?_)
  · obtain ⟨v, d, rfl, _⟩ := h
    rfl
  · obtain ⟨v, d, rfl, F, k⟩ := h
    refine ⟨_, (pss_cons (ps_expr (pe_cl c_check_filter hr (by omega) (pa_cons (pv 0) pa_nil)))
      (pss_one (ps_ret (pe_tup (pa_cons (pe_cl c_answer_to hr (by omega) (pa_cons (pv 0) (pa_cons pe_non pa_nil))) (pa_cons (pe_cl c_passing_texts hr (by omega) (pa_cons (pv 0) pa_nil)) pa_nil)))))), ?_⟩
    have len2 : (2 : Nat) ≤ sizeLine := by decide
    refine ⟨_, rfl, v, d, rfl, F.rp, F.dp, F.fl, fun H1 S1 => ?_⟩
    have F1 := F.up S1
    refine ⟨_, rfl, v, d, none, rfl, F1.rp, F1.fl, F1.dp, (fun l e => by cases e), fun H2 S2 => ?_⟩
    have F2 := F1.up S2
    have := F.wt
    refine ⟨_, rfl, v, d, rfl, F2.rp, F2.fl, F2.dp, F2.ts, by omega, fun b ds H3 S3 sp eq le => ⟨len2, fun t nt => ?_⟩⟩
    exact k t b ds _ (((S1.trans S2).trans S3).new' nt) (SqT.of upd_same) (sp.up (Stp.new nt [])) eq (by omega)
/-! ### the same tuples -/
def selP (z : Str) (ps : List Pr) : PyData := .tuple [.str z, .tuple (ps.map prP)]
theorem tx_beq (a b : Txt) : (tx a == tx b) = decide (a = b) := by
  rw [Bool.eq_iff_iff, beq_iff_eq, decide_eq_true_iff]
  exact ⟨tx_inj, fun h => by rw [h]⟩
theorem eqv_pr (p q : Pr) : PyData.eqv (prP p) (prP q) = decide (p = q) := by
  obtain ⟨f, e⟩ := p
  obtain ⟨g, i⟩ := q
  have e1 : ∀ x y : PyData, PyData.eqv (.tuple [.str (tx f), x]) (.tuple [.str (tx g), y]) = ((tx f == tx g) && PyData.eqv x y) := fun x y => by simp [PyData.eqv, PyData.eqvAll]
  cases e with
  | none =>
    cases i with
    | none =>
      show PyData.eqv (.tuple [.str (tx f), .none]) (.tuple [.str (tx g), .none]) = _
      rw [e1, tx_beq]
      simp [PyData.eqv]
    | some i =>
      show PyData.eqv (.tuple [.str (tx f), .none]) (.tuple [.str (tx g), .str (tx i)]) = _
      rw [e1, tx_beq]
      simp [PyData.eqv]
  | some e =>
    cases i with
    | none =>
      show PyData.eqv (.tuple [.str (tx f), .str (tx e)]) (.tuple [.str (tx g), .none]) = _
      rw [e1, tx_beq]
      simp [PyData.eqv]
    | some i =>
      show PyData.eqv (.tuple [.str (tx f), .str (tx e)]) (.tuple [.str (tx g), .str (tx i)]) = _
      have e3 : PyData.eqv (.str (tx e)) (.str (tx i)) = (tx e == tx i) := by simp [PyData.eqv]
      rw [e1, e3, tx_beq, tx_beq, Bool.eq_iff_iff, Bool.and_eq_true, decide_eq_true_iff, decide_eq_true_iff, decide_eq_true_iff]
      exact ⟨fun ⟨h1, h2⟩ => by rw [h1, h2], fun h => by cases h; exact ⟨rfl, rfl⟩⟩
theorem eqvs_pr : ∀ (ps qs : List Pr), PyData.eqvAll (ps.map prP) (qs.map prP) = decide (ps = qs)
  | [], [] => by simp [PyData.eqvAll]
  | [], _ :: _ => by simp [PyData.eqvAll]
  | _ :: _, [] => by simp [PyData.eqvAll]
  | p :: ps, q :: qs => by
    have e : PyData.eqvAll ((p :: ps).map prP) ((q :: qs).map prP) = (PyData.eqv (prP p) (prP q) && PyData.eqvAll (ps.map prP) (qs.map prP)) := by simp [PyData.eqvAll]
    rw [e, eqv_pr, eqvs_pr ps qs, Bool.eq_iff_iff, Bool.and_eq_true, decide_eq_true_iff, decide_eq_true_iff, decide_eq_true_iff]
    exact ⟨fun ⟨h1, h2⟩ => by rw [h1, h2], fun h => by cases h; exact ⟨rfl, rfl⟩⟩
theorem eqv_sel (z y : Str) (ps qs : List Pr) : PyData.eqv (selP z ps) (selP y qs) = decide (z = y ∧ ps = qs) := by
  have e : PyData.eqv (selP z ps) (selP y qs) = ((z == y) && PyData.eqvAll (ps.map prP) (qs.map prP)) := by simp [selP, PyData.eqv, PyData.eqvAll]
  rw [e, eqvs_pr, Bool.eq_iff_iff, Bool.and_eq_true, decide_eq_true_iff, decide_eq_true_iff, beq_iff_eq]
theorem shaped_tup {ps : List Pr} (h : ∀ p ∈ ps, PrS p) : SeqAt.shaped (.tuple (ps.map prP)) = true := by
  have d := depPs ps
  unfold SeqAt.shaped
  rw [show PyData.canLay0 (.tuple (ps.map prP)) = true from layPs h]
  have e : PyData.depth (.tuple (ps.map prP)) = PyData.depthAll (ps.map prP) + 1 := rfl
  simp [e]
  omega
theorem str_lay (i : Int) : PyData.canLay0 (.str (ansW i)) = true := by
  unfold ansW
  split
  · decide +kernel
  · split <;> decide +kernel
theorem shaped_sel {i : Int} {ps : List Pr} (h : ∀ p ∈ ps, PrS p) : SeqAt.shaped (selP (ansW i) ps) = true := by
  have d := depPs ps
  have e0 : PyData.canLay0 (selP (ansW i) ps) = (PyData.canLay0 (.str (ansW i)) && (PyData.canLay0 (.tuple (ps.map prP)) && true)) := rfl
  have e1 : PyData.canLay0 (.tuple (ps.map prP)) = true := layPs h
  have e2 : PyData.depth (selP (ansW i) ps) = max (PyData.depth (.str (ansW i))) (max (PyData.depth (.tuple (ps.map prP))) 0) + 1 := rfl
  have e3 : PyData.depth (.tuple (ps.map prP)) = PyData.depthAll (ps.map prP) + 1 := rfl
  have e4 : PyData.depth (.str (ansW i)) = 0 := rfl
  unfold SeqAt.shaped
  rw [e0, str_lay, e1, e2, e3, e4]
  simp
  omega
theorem sel_dp {H : Hp} {t b : Addr} {z : Str} {ps : List Pr} (ht : SqT K H t [.str z, .ref b]) (sp : Spn K H b ps) : Dp K H (.ref t) (selP z ps) := .tup ht (.cons (.str _) (.cons sp.dp .nil))
theorem ans_inj {i j : Int} (hi : In3 i) (hj : In3 j) : ansW i = ansW j ↔ i = j := by
  refine ⟨fun e => ?_, fun e => by rw [e]⟩
  rcases hi with rfl | rfl | rfl <;> rcases hj with rfl | rfl | rfl <;> first | rfl | exact absurd e (by decide +kernel)
def spAlike (K : PySem.W.Frag) (n : Nat) : Sp := fun vs H Q _ => ∃ (v1 v2 : V) (d1 d2 : Dt), vs = [v1, v2] ∧ Fil K n H v1 d1 ∧ Fil K n H v2 d2 ∧
  ∀ (b : Bool) H', Stp [] H H' → (b = true ↔ lev n none d1 = lev n none d2 ∧ ∀ w, Abc w → yesB n d1 w = yesB n d2 w) → Q (.bl b) H'
theorem cl_alike {f : Addr} {fd : FuncData} {n m : Nat} (D : Df K mg "alike" s_alike ["one", "other"] f fd) (T : Nm mg) (c_selection : Cl P w K mg base m "selection" s_selection ["query"] (spSel K n)) : Cl P w K mg base (m + 1) "alike" s_alike ["one", "other"] (spAlike K n) := by
  refine D.cl sc_alike (fun vs H Q E h => ?_) (fun cdv A outer s H vs Q E hr h => ?_)
  · obtain ⟨v1, v2, d1, d2, rfl, _⟩ := h
    rfl
  · obtain ⟨v1, v2, d1, d2, rfl, F1, F2, k⟩ := h
    refine ⟨_, (pss_one (ps_ret (pe_cmpR (op_eqD hr.units) (pe_cl c_selection hr (by omega) (pa_cons (pv 0) pa_nil)) (pe_cl c_selection hr (by omega) (pa_cons (pv 1) pa_nil)) (by first | exact nomark _ | rfl)))), ?_⟩
    refine ⟨_, rfl, v1, d1, rfl, F1, fun t1 b1 ps H1 S1 h1 sp1 eq1 l1 => ?_⟩
    refine ⟨_, rfl, v2, d2, rfl, F2.up S1, fun t2 b2 qs H2 S2 h2 sp2 eq2 l2 => ?_⟩
    have h1' := sqt_stp S2 Lsts.nil h1
    have sp1' := sp1.up S2
    refine ⟨_, _, sel_dp h1' sp1', sel_dp h2 sp2, shaped_sel fun p m => (sp1.ok.ok p m).s, shaped_sel fun p m => (sp2.ok.ok p m).s, ?_⟩
    refine k _ H2 (S1.trans S2) ?_
    rw [eqv_sel, decide_eq_true_iff, ans_inj (lev_in n none d1) (lev_in n none d2)]
    constructor
    · rintro ⟨e1, e2⟩
      exact ⟨e1, fun w aw => by rw [← eq1 w aw, ← eq2 w aw, e2]⟩
    · rintro ⟨e1, e2⟩
      exact ⟨e1, span_uniqA sp1.ok sp2.ok fun w aw => by rw [eq1 w aw, eq2 w aw, e2 w aw]⟩
abbrev s_parting : Stmt := topS 38
abbrev N_parting : List Str := ["one", "other", "texts", "other_texts", "just_one"]
theorem sc_parting : FnScope ["one", "other", "texts", "other_texts", "just_one"] ["one", "other"] (defScope s_parting) := ⟨rfl, rfl, rfl, by decide +kernel, rfl, by decide +kernel, by decide +kernel⟩

abbrev s_within : Stmt := topS 39
abbrev N_within : List Str := ["one", "other"]
theorem sc_within : FnScope ["one", "other"] ["one", "other"] (defScope s_within) := ⟨rfl, rfl, rfl, by decide +kernel, rfl, by decide +kernel, by decide +kernel⟩

/-! ### parting, within -/
/-- what parts two filters -/
def PartOf (n : Nat) (d1 d2 : Dt) : List Vl → Prop
  | [none] => decide (lev n none d1 = 2) ≠ decide (lev n none d2 = 2)
  | [] => decide (lev n none d1 = 2) = decide (lev n none d2 = 2) ∧ ∀ w, Abc w → yesB n d1 w = yesB n d2 w
  | [some w] => decide (lev n none d1 = 2) = decide (lev n none d2 = 2) ∧ Abc w ∧ w.length ≤ 40 ∧ yesB n d1 w ≠ yesB n d2 w ∧ ∀ x, Abc x → x < w → yesB n d1 x = yesB n d2 x
  | _ => False
def spPart (K : PySem.W.Frag) (n : Nat) : Sp := fun vs H Q _ => ∃ (v1 v2 : V) (d1 d2 : Dt), vs = [v1, v2] ∧ Fil K n H v1 d1 ∧ Fil K n H v2 d2 ∧ wtD d1 ≤ 600 ∧ wtD d2 ≤ 600 ∧
  ∀ t rs H', Stp [] H H' → SqT K H' t (rs.map oV) → PartOf n d1 d2 rs → Q (.ref t) H'
theorem xor_no {a b : Bool} : (a && !b || !a && b) = false → a = b := by cases a <;> cases b <;> simp
theorem xor_yes {a b : Bool} : (a && !b || !a && b) = true → a ≠ b := by cases a <;> cases b <;> simp
theorem cl_parting {f : Addr} {fd : FuncData} {n m : Nat} (hm : 6 ≤ m) (D : Df K mg "parting" s_parting ["one", "other"] f fd) (T : Nm mg) (c_check_filter : Cl P w K mg base m "check_filter" s_check_filter ["query"] (spCkF K n)) (c_passes : Cl P w K mg base m "passes" s_passes ["query", "value"] (spPas K n))
    (c_passing_texts : Cl P w K mg base m "passing_texts" s_passing_texts ["query"] (spPass K n)) (c_opposite : Cl P w K mg base 5 "opposite" s_opposite ["span"] (spOpp K)) (c_joined : Cl P w K mg base 5 "joined" s_joined ["span", "other_span"] (spJoined K)) (c_shared : Cl P w K mg base 6 "shared" s_shared ["span", "other_span"] (spShared K))
    (c_least_text : Cl P w K mg base 5 "least_text" s_least_text ["span"] (spLeast K)) : Cl P w K mg base (m + 1) "parting" s_parting ["one", "other"] (spPart K n) := by
  refine D.cl sc_parting (fun vs H Q E h => ?_) (fun cdv A outer s H vs Q E hr h => ?_)
  · obtain ⟨v1, v2, d1, d2, rfl, _⟩ := h
    rfl
  · obtain ⟨v1, v2, d1, d2, rfl, F1, F2, w1, w2, k⟩ := h
    refine ⟨_, (pss_cons (ps_expr (pe_cl c_check_filter hr (by omega) (pa_cons (pv 0) pa_nil)))
      (pss_cons (ps_expr (pe_cl c_check_filter hr (by omega) (pa_cons (pv 1) pa_nil)))
      (pss_cons (ps_if (pt_cmpR op_ne (pe_cl c_passes hr (by omega) (pa_cons (pv 0) (pa_cons pe_non pa_nil))) (pe_cl c_passes hr (by omega) (pa_cons (pv 1) (pa_cons pe_non pa_nil))) (by first | exact nomark _ | rfl)) (pss_one (ps_ret (pe_tup (pa_cons pe_non pa_nil)))) pss_nil)
      (pss_cons (ps_set (i := 2) sc_parting.nd rfl (by first | exact Or.inl rfl | exact Or.inr rfl) (pe_cl c_passing_texts hr (by omega) (pa_cons (pv 0) pa_nil)))
      (pss_cons (ps_set (i := 3) sc_parting.nd rfl (by first | exact Or.inl rfl | exact Or.inr rfl) (pe_cl c_passing_texts hr (by omega) (pa_cons (pv 1) pa_nil)))
      (pss_cons (ps_set (i := 4) sc_parting.nd rfl (by first | exact Or.inl rfl | exact Or.inr rfl) (pe_cl c_joined hr (by omega) (pa_cons (pe_cl c_shared hr (by omega) (pa_cons (pv 2) (pa_cons (pe_cl c_opposite hr (by omega) (pa_cons (pv 3) pa_nil)) pa_nil))) (pa_cons (pe_cl c_shared hr (by omega) (pa_cons (pe_cl c_opposite hr (by omega) (pa_cons (pv 2) pa_nil)) (pa_cons (pv 3) pa_nil))) pa_nil))))
      (pss_one (ps_ret (pe_ifExp (pt_truth (pv 4) (by intro _; rfl)) (pe_tup (pa_cons (pe_cl c_least_text hr (by omega) (pa_cons (pv 4) pa_nil)) pa_nil)) (pe_tup pa_nil)))))))))), ?_⟩
    have len1 : (1 : Nat) ≤ sizeLine := by decide
    refine ⟨_, rfl, v1, d1, rfl, F1.rp, F1.dp, F1.fl, fun H1 S1 => ?_⟩
    have F2a := F2.up S1
    refine ⟨_, rfl, v2, d2, rfl, F2a.rp, F2a.dp, F2a.fl, fun H2 S2 => ?_⟩
    have F1b := (F1.up S1).up S2
    refine ⟨_, rfl, v1, d1, none, rfl, F1b.rp, F1b.fl, F1b.dp, (fun l e => by cases e), fun H3 S3 => ?_⟩
    have F2c := (F2a.up S2).up S3
    refine ⟨_, rfl, v2, d2, none, rfl, F2c.rp, F2c.fl, F2c.dp, (fun l e => by cases e), fun H4 S4 => ?_⟩
    have S04 := ((S1.trans S2).trans S3).trans S4
    refine ⟨rfl, _, rfl, ite2 (fun h => ?_) (fun h => ?_)⟩
    · refine ⟨len1, fun t nt => ?_⟩
      refine k t [none] _ (S04.new' nt) (SqT.of upd_same) ?_
      show decide (lev n none d1 = 2) ≠ decide (lev n none d2 = 2)
      intro e
      rw [e] at h
      simp at h
    have pe : decide (lev n none d1 = 2) = decide (lev n none d2 = 2) := by
      cases q1 : decide (lev n none d1 = 2) <;> cases q2 : decide (lev n none d2 = 2) <;> rw [q1, q2] at h <;> first | rfl | exact absurd rfl h
    have F14 := F1.up S04
    refine ⟨_, rfl, v1, d1, rfl, F14.rp, F14.fl, F14.dp, F14.ts, by omega, fun a ps H5 S5 sa eqa la => ?_⟩
    have F25 := (F2.up S04).up S5
    refine ⟨_, rfl, v2, d2, rfl, F25.rp, F25.fl, F25.dp, F25.ts, by omega, fun b qs H6 S6 sb eqb lb => ?_⟩
    have sa6 := sa.up S6
    have la' := opps_len ps []
    have lb' := opps_len qs []
    refine ⟨_, rfl, _, rfl, b, qs, rfl, sb, by omega, fun b1 H7 S7 sb1 => ?_⟩
    refine ⟨a, b1, ps, _, rfl, sa6.up S7, sb1, by omega, fun r2 e2 H8 S8 sp2 eq2 l2 => ?_⟩
    have S68 := S7.trans S8
    refine ⟨_, rfl, a, ps, rfl, sa6.up S68, by omega, fun a1 H9 S9 sa1 => ?_⟩
    refine ⟨_, rfl, a1, b, _, qs, rfl, sa1, (sb.up S68).up S9, by omega, fun r4 e4 H10 S10 sp4 eq4 l4 => ?_⟩
    refine ⟨r2, r4, e2, e4, rfl, (sp2.up S9).up S10, sp4, by omega, fun r ds H11 S11 sp eq => ?_⟩
    have SA := ((((S04.trans S5).trans S6).trans S68).trans S9).trans (S10.trans S11)
    have eqx : ∀ w, Abc w → inS ds w = (yesB n d1 w && !yesB n d2 w || !yesB n d1 w && yesB n d2 w) := fun w aw => by
      rw [eq, eq2, eq4, opps_w sa.ok, opps_w sb.ok, eqa w aw, eqb w aw]
    obtain ⟨⟨xs, hx, rx⟩, okd, few⟩ := id sp
    refine ⟨_, rfl, _, .inr (.inl ⟨xs, hx, rfl⟩), ?_⟩
    cases ds with
    | nil =>
      cases rx
      refine ite2 (fun h => nomatch (h : false = true)) (fun _ => ?_)
      refine ⟨Nat.zero_le _, fun t nt => k t [] _ (SA.new' nt) (SqT.of upd_same) ⟨pe, fun w aw => xor_no ?_⟩⟩
      rw [← eqx w aw]
      rfl
    | cons p ds =>
      cases rx with
      | cons r1 rl =>
        refine ite2 (fun _ => ?_) (fun h => absurd rfl h)
        refine ⟨_, rfl, r, _, rfl, sp, fun H12 S12 => ⟨len1, fun t nt => ?_⟩⟩
        have o := okd.ok p List.mem_cons_self
        refine k t [some p.1] _ ((SA.trans S12).new' nt) (SqT.of upd_same) ⟨pe, o.1.1, o.1.2, xor_yes ?_, fun x ax lt => xor_no ?_⟩
        · rw [← eqx p.1 o.1.1]
          exact inS_mem.mpr ⟨p, List.mem_cons_self, first_in okd List.mem_cons_self⟩
        · rw [← eqx x ax]
          exact inS_low fun q mq => by
            rcases List.mem_cons.mp mq with rfl | mq
            · exact lt
            · exact firsts okd (lt_le' lt) q mq
def spWithin (K : PySem.W.Frag) (n : Nat) : Sp := fun vs H Q _ => ∃ (v1 v2 : V) (d1 d2 : Dt), vs = [v1, v2] ∧ Fil K n H v1 d1 ∧ Fil K n H v2 d2 ∧ wtD d1 ≤ 600 ∧ wtD d2 ≤ 600 ∧
  ∀ (b : Bool) H', Stp [] H H' → (b = true ↔ (lev n none d1 = 2 → lev n none d2 = 2) ∧ ∀ w, Abc w → yesB n d1 w = true → yesB n d2 w = true) → Q (.bl b) H'
theorem cl_within {f : Addr} {fd : FuncData} {n m : Nat} (hm : 6 ≤ m) (D : Df K mg "within" s_within ["one", "other"] f fd) (T : Nm mg) (c_check_filter : Cl P w K mg base m "check_filter" s_check_filter ["query"] (spCkF K n)) (c_passes : Cl P w K mg base m "passes" s_passes ["query", "value"] (spPas K n))
    (c_passing_texts : Cl P w K mg base m "passing_texts" s_passing_texts ["query"] (spPass K n)) (c_opposite : Cl P w K mg base 5 "opposite" s_opposite ["span"] (spOpp K)) (c_shared : Cl P w K mg base 6 "shared" s_shared ["span", "other_span"] (spShared K)) : Cl P w K mg base (m + 1) "within" s_within ["one", "other"] (spWithin K n) := by
  refine D.cl sc_within (fun vs H Q E h => ?_) (fun cdv A outer s H vs Q E hr h => ?_)
  · obtain ⟨v1, v2, d1, d2, rfl, _⟩ := h
    rfl
  · obtain ⟨v1, v2, d1, d2, rfl, F1, F2, w1, w2, k⟩ := h
    refine ⟨_, (pss_cons (ps_expr (pe_cl c_check_filter hr (by omega) (pa_cons (pv 0) pa_nil)))
      (pss_cons (ps_expr (pe_cl c_check_filter hr (by omega) (pa_cons (pv 1) pa_nil)))
      (pss_cons (ps_if (PW.pt (pw_and (pt_val (pe_cl c_passes hr (by omega) (pa_cons (pv 0) (pa_cons pe_non pa_nil)))) (pw_and1 (pt_not (pt_val (pe_cl c_passes hr (by omega) (pa_cons (pv 1) (pa_cons pe_non pa_nil)))))))) (pss_one (ps_ret pe_bl)) pss_nil)
      (pss_one (ps_ret (pe_cmpR (op_eqD hr.units) (pe_cl c_shared hr (by omega) (pa_cons (pe_cl c_passing_texts hr (by omega) (pa_cons (pv 0) pa_nil)) (pa_cons (pe_cl c_opposite hr (by omega) (pa_cons (pe_cl c_passing_texts hr (by omega) (pa_cons (pv 1) pa_nil)) pa_nil)) pa_nil))) (pe_tup pa_nil) (by first | exact nomark _ | rfl))))))), ?_⟩
    refine ⟨_, rfl, v1, d1, rfl, F1.rp, F1.dp, F1.fl, fun H1 S1 => ?_⟩
    have F2a := F2.up S1
    refine ⟨_, rfl, v2, d2, rfl, F2a.rp, F2a.dp, F2a.fl, fun H2 S2 => ?_⟩
    have F1b := (F1.up S1).up S2
    dsimp only
    refine seq_end (fun σ H' => σ = [some v1, some v2] ∧ Stp [] H H' ∧ (lev n none d1 = 2 → lev n none d2 = 2)) ?_ (fun fin => ?_)
    rotate_left
    · refine ⟨_, rfl, v1, d1, none, rfl, F1b.rp, F1b.fl, F1b.dp, (fun l e => by cases e), fun H3 S3 => ?_⟩
      refine ⟨_, rfl, ite2 (fun h => ?_) (fun h => ?_)⟩
      · have F2c := (F2a.up S2).up S3
        refine ⟨_, rfl, v2, d2, none, rfl, F2c.rp, F2c.fl, F2c.dp, (fun l e => by cases e), fun H4 S4 => ?_⟩
        have S04 := ((S1.trans S2).trans S3).trans S4
        refine ⟨_, rfl, ite2 (fun h2 => ?_) (fun h2 => ?_)⟩
        · refine k false H4 S04 ⟨fun e => (nomatch e), fun e => ?_⟩
          have := e.1 (of_decide_eq_true h)
          rw [decide_eq_true this] at h2
          exact absurd h2 (by decide)
        · refine fin _ _ ⟨rfl, S04, fun _ => ?_⟩
          cases q : decide (lev n none d2 = 2) with
          | true => exact of_decide_eq_true q
          | false =>
            rw [q] at h2
            exact absurd rfl h2
      · exact fin _ _ ⟨rfl, (S1.trans S2).trans S3, fun e => absurd (decide_eq_true e) h⟩
    rintro σ H4 ⟨rfl, S04, imp⟩
    have F14 := F1.up S04
    refine ⟨_, rfl, v1, d1, rfl, F14.rp, F14.fl, F14.dp, F14.ts, by omega, fun a ps H5 S5 sa eqa la => ?_⟩
    have F25 := (F2.up S04).up S5
    refine ⟨_, rfl, v2, d2, rfl, F25.rp, F25.fl, F25.dp, F25.ts, by omega, fun b qs H6 S6 sb eqb lb => ?_⟩
    have lb' := opps_len qs []
    refine ⟨b, qs, rfl, sb, by omega, fun b1 H7 S7 sb1 => ?_⟩
    refine ⟨a, b1, ps, _, rfl, (sa.up S6).up S7, sb1, by omega, fun r ds H8 S8 sp eq l2 => ?_⟩
    refine ⟨Nat.zero_le _, fun t nt => ?_⟩
    have S9 : Stp [] H8 (upd H8 t (.tup [])) := Stp.new nt _
    refine ⟨_, .tuple [], (sp.up S9).dp, .tup (SqT.of upd_same) .nil, shaped_tup fun p m => (sp.ok.ok p m).s, rfl, ?_⟩
    refine k _ _ (((((S04.trans S5).trans S6).trans S7).trans S8).trans S9) ?_
    have ee : PyData.eqv (.tuple (ds.map prP)) (.tuple []) = decide (ds = []) := by
      have := eqvs_pr ds []
      simpa [PyData.eqv] using this
    rw [ee, decide_eq_true_iff]
    have eqx : ∀ w, Abc w → inS ds w = (yesB n d1 w && !yesB n d2 w) := fun w aw => by rw [eq, opps_w sb.ok, eqa w aw, eqb w aw]
    constructor
    · rintro rfl
      refine ⟨imp, fun w aw y1 => ?_⟩
      have := eqx w aw
      rw [y1] at this
      cases q : yesB n d2 w with
      | true => rfl
      | false =>
        rw [q] at this
        cases this
    · rintro ⟨_, all⟩
      refine span_uniqA sp.ok SpOk.nil fun w aw => ?_
      rw [eqx w aw]
      show _ = false
      cases q : yesB n d1 w with
      | false => rfl
      | true => rw [all w aw q]; rfl
/-! ### the texts of values -/
mutual
def pyD : Dt → PyData
  | .non => .none
  | .bl b => .bool b
  | .int i => .int i
  | .str l => .str (tx l)
  | .tup ds => .tuple (pyL ds)
  | .lst => .none
  | .obj => .none
def pyL : List Dt → List PyData
  | [] => []
  | d :: ds => pyD d :: pyL ds
end
mutual
def gdD : Dt → Prop
  | .str l => l.length ≤ 40 ∧ ∀ c ∈ l, c < 16 ^ 8
  | .tup ds => gdL ds
  | .non => True
  | .bl _ => True
  | .int _ => False
  | .lst => False
  | .obj => False
def gdL : List Dt → Prop
  | [] => True
  | d :: ds => gdD d ∧ gdL ds
end
mutual
theorem rp_dp {H : Hp} : ∀ (d : Dt) {v : V}, gdD d → Rp K H v d → Dp K H v (pyD d)
  | .non, _, _, h => by cases h; exact .non
  | .bl b, _, _, h => by cases h; exact .bl b
  | .int i, _, g, _ => g.elim
  | .str l, _, _, h => by cases h; exact .str _
  | .tup ds, _, g, h => by
    cases h with
    | tup hs _ rl => exact .tup hs (rps_dp ds g rl)
  | .lst, _, g, _ => g.elim
  | .obj, _, g, _ => g.elim
theorem rps_dp {H : Hp} : ∀ (ds : List Dt) {vs : List V}, gdL ds → RpL K H vs ds → DpAll K H vs (pyL ds)
  | [], _, _, h => by cases h; exact .nil
  | d :: ds, _, g, h => by
    cases h with
    | cons a b => exact .cons (rp_dp d g.1 a) (rps_dp ds g.2 b)
end
mutual
theorem neat_py : ∀ (d : Dt), gdD d → Neat (pyD d)
  | .non, _ => .non
  | .bl b, _ => .bl b
  | .int i, g => g.elim
  | .str l, g => .str (by rw [tx_len]; exact g.1) fun n m => g.2 n (by simpa [tx] using m)
  | .tup ds, g => .tup (neats_py ds g)
  | .lst, g => g.elim
  | .obj, g => g.elim
theorem neats_py : ∀ (ds : List Dt), gdL ds → Neats (pyL ds)
  | [], _ => .nil
  | d :: ds, g => .cons (neat_py d g.1) (neats_py ds g.2)
end
mutual
theorem dW_py : ∀ (d : Dt), gdD d → dW (pyD d) + 2 ≤ 410 * wtD d
  | .non, _ => by simp [pyD, dW, wtD]
  | .bl b, _ => by simp [pyD, dW, wtD]
  | .int i, g => g.elim
  | .str l, _ => by simp [pyD, dW, wtD]
  | .tup ds, g => by
    have := dWs_py ds g
    simp only [pyD, dW, wtD]
    omega
  | .lst, g => g.elim
  | .obj, g => g.elim
theorem dWs_py : ∀ (ds : List Dt), gdL ds → dWs (pyL ds) ≤ 410 * wtL ds
  | [], _ => by simp [pyL, dWs, wtL]
  | d :: ds, g => by
    have a := dW_py d g.1
    have b := dWs_py ds g.2
    simp only [pyL, dWs, wtL]
    omega
end
mutual
theorem dep_py : ∀ (d : Dt), PyData.depth (pyD d) ≤ d.dep
  | .non => Nat.zero_le _
  | .bl b => Nat.zero_le _
  | .int i => Nat.zero_le _
  | .str l => Nat.zero_le _
  | .tup ds => by
    have := deps_py ds
    show PyData.depthAll (pyL ds) + 1 ≤ Dt.depL ds + 1
    omega
  | .lst => Nat.zero_le _
  | .obj => Nat.zero_le _
theorem deps_py : ∀ (ds : List Dt), PyData.depthAll (pyL ds) ≤ Dt.depL ds
  | [] => Nat.zero_le _
  | d :: ds => by
    have a := dep_py d
    have b := deps_py ds
    show max (PyData.depth (pyD d)) (PyData.depthAll (pyL ds)) ≤ max d.dep (Dt.depL ds)
    omega
end
theorem rep_rp {H : Hp} {v : V} {d : Dt} {Q : VK} (r : Rp K H v d) (g : gdD d) (dp : d.dep ≤ 100) (wt : wtD d ≤ 20000) (k : Q (.str (pyD d).shown) H) : rNeat K [v] H Q := by
  have a := dep_py d
  have b := dW_py d g
  exact ⟨v, pyD d, rfl, rp_dp d g r, neat_py d g, by omega, by omega, k⟩
theorem gd_abc {l : Txt} (h : Abc l) (hl : l.length ≤ 40) : gdD (.str l) := ⟨hl, fun c m => by rcases h c m with e | e | e <;> rw [e] <;> decide⟩
theorem gd_lit {s : Str} (h1 : s.cps.toList.length ≤ 40 := by decide +kernel) (h2 : (s.cps.toList.all fun c => decide (c < 16 ^ 8)) = true := by decide +kernel) : gdD (.str s.cps.toList) := ⟨h1, fun c m => of_decide_eq_true (List.all_eq_true.mp h2 c m)⟩
theorem gdL_of : ∀ {ds : List Dt}, (∀ d ∈ ds, gdD d) → gdL ds
  | [], _ => trivial
  | d :: ds, h => ⟨h d List.mem_cons_self, gdL_of fun e m => h e (List.mem_cons_of_mem _ m)⟩
theorem gd_flt {d : Dt} (f : Flt d) : tshD 30 d → gdD d := by
  induction f with
  | @tx wd l hw ha =>
    intro h
    refine ⟨?_, gd_abc ha (by have : l.length ≤ 30 := h.2.1; omega), trivial⟩
    rcases hw with rfl | rfl | rfl | rfl <;> exact gd_lit
  | none => exact fun _ => ⟨gd_lit, trivial⟩
  | say b => exact fun _ => ⟨gd_lit, trivial, trivial⟩
  | not _ ih => exact fun h => ⟨gd_lit, ih h.2.1, trivial⟩
  | among h =>
    intro g
    refine ⟨gd_lit, gdL_of fun d m => ?_, trivial⟩
    obtain ⟨l, rfl, al⟩ := h d m
    have : l.length ≤ 30 := tsh_mem g.2.1 m
    exact gd_abc al (by omega)
  | many hw _ ih =>
    intro g
    refine ⟨?_, gdL_of fun d m => ih d m (tsh_mem g.2.1 m), trivial⟩
    rcases hw with rfl | rfl <;> exact gd_lit
theorem gd_pr {p : Pr} (h : PrS p) : gdD (prD p) := by
  obtain ⟨f, e⟩ := p
  refine ⟨gd_abc h.1.1 h.1.2, ?_, trivial⟩
  cases e with
  | none => trivial
  | some e => exact gd_abc (h.2 e rfl).1 (h.2 e rfl).2
theorem gd_spn {ps : List Pr} (h : SpOk ps) : gdD (spD ps) := gdL_of (ds := ps.map prD) fun d m => by
  obtain ⟨p, mp, rfl⟩ := List.mem_map.mp m
  exact gd_pr (h.ok p mp).s
theorem wt_pr (p : Pr) : wtD (prD p) = 4 := by
  obtain ⟨f, e⟩ := p
  cases e <;> rfl
theorem wt_spn (ps : List Pr) : wtD (spD ps) = 4 * ps.length + 2 := by
  have go : ∀ ps : List Pr, wtL (ps.map prD) = 4 * ps.length := fun ps => by
    induction ps with
    | nil => rfl
    | cons p ps ih =>
      show wtD (prD p) + wtL (ps.map prD) = 4 * (ps.length + 1)
      rw [wt_pr, ih]
      omega
  show wtL (ps.map prD) + 2 = _
  rw [go]
theorem dep_pr (p : Pr) : (prD p).dep = 1 := by
  obtain ⟨f, e⟩ := p
  cases e <;> rfl
theorem dep_spn (ps : List Pr) : (spD ps).dep ≤ 2 := by
  have : Dt.depL (ps.map prD) ≤ 1 := Dt.depL_le fun d m => by
    obtain ⟨p, _, rfl⟩ := List.mem_map.mp m
    rw [dep_pr]
    exact Nat.le_refl _
  show Dt.depL (ps.map prD) + 1 ≤ 2
  omega
theorem rep_bl {H : Hp} {b : Bool} {Q : VK} (k : Q (.str (PyData.bool b).shown) H) : rNeat K [.bl b] H Q := by
  refine ⟨.bl b, .bool b, rfl, .bl b, .bl b, ?_, ?_, k⟩ <;> cases b <;> decide
def OkT (t : Vl) : Prop := ∀ l, t = some l → Short l
def vlP : Vl → PyData
  | none => .none
  | some l => .str (tx l)
abbrev s__law_leaf : Stmt := topS 48
abbrev N__law_leaf : List Str := ["bag", "room", "pool", "way", "wide", "many", "words", "k"]
theorem sc__law_leaf : FnScope ["bag", "room", "pool", "way", "wide", "many", "words", "k"] ["bag", "room", "pool"] (defScope s__law_leaf) := ⟨rfl, rfl, rfl, by decide +kernel, rfl, by decide +kernel, by decide +kernel⟩

theorem monoDraw : MonoS spDraw := fun vs H Q Q' E h ⟨b, up, n, e, B, h1, h2, h3, k⟩ => ⟨b, up, n, e, B, h1, h2, h3, fun d H' a b c e => h _ _ (k d H' a b c e)⟩
/-- what a drawn filter is -/
def Made (K : PySem.W.Frag) (H : Hp) (v : V) (m : Nat) (k : Int) : Prop := ∃ d, Rp K H v d ∧ Flt d ∧ d.dep ≤ m ∧ tshD 12 d ∧ (wtD d : Int) ≤ k
theorem Made.stp {K : PySem.W.Frag} {H H' : Hp} {v : V} {m : Nat} {k : Int} {S : List Addr} (h : Made K H v m k) (s : Stp S H H') (l : Lsts H S) : Made K H' v m k := by
  obtain ⟨d, r, f, e⟩ := h
  exact ⟨d, r.stp s l, f, e⟩
/-- the bag, the room, the pool -/
structure Sto (N : Int) (H : Hp) (b r p : Addr) (n : Nat) (r0 r1 : Int) (ls : List (List Nat)) : Prop where
  bag : Bag H b n
  room : H r = some (.lst [.int r0, .int r1])
  pool : Pool H p ls
  br : b ≠ r
  bp : b ≠ p
  rp : r ≠ p
  pos : 0 ≤ r1
  few : (ls.length : Int) + r1 ≤ N ∧ N ≤ 1000
theorem Sto.lsts {N : Int} {H : Hp} {b r p : Addr} {n : Nat} {r0 r1 : Int} {ls : List (List Nat)} (s : Sto N H b r p n r0 r1 ls) : Lsts H [b, r, p] := by
  obtain ⟨x, y, z, h, _⟩ := s.bag
  exact .cons h (.cons s.room (.one s.pool.1))
theorem Sto.lb {N : Int} {H : Hp} {b r p : Addr} {n : Nat} {r0 r1 : Int} {ls : List (List Nat)} (s : Sto N H b r p n r0 r1 ls) : Lsts H [b] := fun q m => s.lsts q (by rw [List.mem_singleton.mp m]; simp)
/-- behind a step that changes the bag alone -/
theorem Sto.draw {N : Int} {H H' : Hp} {b r p : Addr} {n m : Nat} {r0 r1 : Int} {ls : List (List Nat)} (s : Sto N H b r p n r0 r1 ls) (st : Stp [b] H H') (B : Bag H' b m) : Sto N H' b r p m r0 r1 ls :=
  ⟨B, st.kp _ _ (fun q => s.br (List.mem_singleton.mp q).symm) s.room, ⟨st.kp _ _ (fun q => s.bp (List.mem_singleton.mp q).symm) s.pool.1, s.pool.2⟩, s.br, s.bp, s.rp, s.pos, s.few⟩
theorem Sto.fresh {N : Int} {H : Hp} {b r p q : Addr} {n : Nat} {r0 r1 : Int} {ls : List (List Nat)} {o : HO} (s : Sto N H b r p n r0 r1 ls) (h : H q = none) : Sto N (upd H q o) b r p n r0 r1 ls :=
  s.draw (Stp.new h _) (s.bag.upd (s.bag.ne h))
theorem lit9 {s : Str} (h : s = "none" ∨ s = "or" ∨ s = "and" ∨ s = "not" ∨ s = "among" ∨ s = "is" ∨ s = "below" ∨ s = "above" ∨ s = "begins" ∨ s = "say") : s.cps.toList.length ≤ 12 := by
  rcases h with rfl | rfl | rfl | rfl | rfl | rfl | rfl | rfl | rfl | rfl <;> decide +kernel
def spLeaf (K : PySem.W.Frag) : Sp := fun vs H Q _ => ∃ (N : Int) (b r p : Addr) (n : Nat) (r0 r1 : Int) (ls : List (List Nat)), vs = [.ref b, .ref r, .ref p] ∧ Sto N H b r p n r0 r1 ls ∧ n + 1000 < 2 ^ 30 ∧
  ∀ v H' r1' ls', Made K H' v 2 (5 + (r1 - r1')) → Stp [b, r, p] H H' → Sto N H' b r p (n + 400) r0 r1' ls' → Q v H'
theorem b_in {b r p : Addr} : ∀ x ∈ ([b] : List Addr), x ∈ [b, r, p] := fun x m => by rw [List.mem_singleton.mp m]; simp
theorem cl__law_leaf {f : Addr} {fd : FuncData} (D : Df K mg "_law_leaf" s__law_leaf ["bag", "room", "pool"] f fd) (T : Nm mg) (c__law_draw : Cl P w K mg base 1 "_law_draw" s__law_draw ["bag", "upto"] spDraw)
    (c__law_some : Cl P w K mg base 3 "_law_some" s__law_some ["bag", "pool"] spSome) : Cl P w K mg base 4 "_law_leaf" s__law_leaf ["bag", "room", "pool"] (spLeaf K) := by
  refine D.cl sc__law_leaf (fun vs H Q E h => ?_) (fun cdv A outer s H vs Q E hr h => ?_)
  · obtain ⟨N, b, r, p, n, r0, r1, ls, rfl, _⟩ := h
    rfl
  · obtain ⟨N, b, r, p, n, r0, r1, ls, rfl, s0, hn, k⟩ := h
    refine ⟨_, (pss_cons (ps_set (i := 3) sc__law_leaf.nd rfl (by first | exact Or.inl rfl | exact Or.inr rfl) (pe_cl c__law_draw hr (by omega) (pa_cons (pv 0) (pa_cons pe_int pa_nil))))
      (pss_cons (ps_if (PW.pt (pw_or (pt_cmpR op_eq (pv 3) pe_int (by first | exact nomark _ | rfl)) (pw_or1 (PW.pt (pw_and (pt_cmpR op_lt (pe_ix ix_list (pv 1) pe_int (fun _ _ => rfl)) pe_int (by first | exact nomark _ | rfl)) (pw_and1 (pt_cmpR op_gt (pv 3) pe_int (by first | exact nomark _ | rfl)))))))) (pss_one (ps_ret (pe_tup (pa_cons pe_str pa_nil)))) pss_nil)
      (pss_cons (ps_if (pt_cmpR op_eq (pv 3) pe_int (by first | exact nomark _ | rfl)) (pss_one (ps_ret (pe_tup (pa_cons pe_str (pa_cons (pe_cmpR op_eq (pe_cl c__law_draw hr (by omega) (pa_cons (pv 0) (pa_cons pe_int pa_nil))) pe_int (by first | exact nomark _ | rfl)) pa_nil))))) pss_nil)
      (pss_cons (ps_set (i := 4) sc__law_leaf.nd rfl (by first | exact Or.inl rfl | exact Or.inr rfl) (pe_ifExp (pt_cmpR op_eq (pe_cl c__law_draw hr (by omega) (pa_cons (pv 0) (pa_cons pe_int pa_nil))) pe_int (by first | exact nomark _ | rfl)) pe_int pe_int))
      (pss_cons (ps_set (i := 5) sc__law_leaf.nd rfl (by first | exact Or.inl rfl | exact Or.inr rfl) (pe_ifExp (pt_cmpR op_eq (pv 3) pe_int (by first | exact nomark _ | rfl)) (pe_cl c__law_draw hr (by omega) (pa_cons (pv 0) (pa_cons (pe_op op_add (pe_callB (call_min2 rfl) (by rfl) T.n_min (by decide +kernel) (pa_cons (pv 4) (pa_cons (pe_callTy call_int1 (by rfl) T.n_int (by decide +kernel) (pa_cons (pe_ix ix_list (pv 1) pe_int (fun _ _ => rfl)) pa_nil)) pa_nil))) pe_int) pa_nil))) pe_int))
      (pss_cons (ps_asg (pe_op op_sub (pe_ix ix_list (pv 1) pe_int (fun _ _ => rfl)) (pv 5)) (pg_sub (pv 1) pe_int set_list))
      (pss_cons (ps_set (i := 6) sc__law_leaf.nd rfl (by first | exact Or.inl rfl | exact Or.inr rfl) (pe_lst pa_nil))
      (pss_cons (ps_for PassesOwn.never rfl (pi_range1 (by rfl) T.n_range (pa_cons (pv 5) pa_nil)) (pg_name (i := 7) sc__law_leaf.nd rfl (by first | exact Or.inl rfl | exact Or.inr rfl)) (pss_cons (ps_expr (pe_bm PySem.F.plainAttrs_list PySem.F.slot_list_append PySem.F.type_list_append mt_append (pv 6) (pa_cons (pe_cl c__law_some hr (by omega) (pa_cons (pv 0) (pa_cons (pv 2) pa_nil))) pa_nil)))
      (pss_one (ps_expr (pe_bm PySem.F.plainAttrs_list PySem.F.slot_list_append PySem.F.type_list_append mt_append (pv 2) (pa_cons (pe_ix ix_list (pv 6) (pv 7) (fun _ _ => rfl)) pa_nil))))))
      (pss_cons (ps_if (pt_cmpR op_eq (pv 3) pe_int (by first | exact nomark _ | rfl)) (pss_one (ps_ret (pe_tup (pa_cons pe_str (pa_cons (pe_callTy call_tuple_of (by rfl) T.n_tuple (by decide +kernel) (pa_cons (pv 6) pa_nil)) pa_nil))))) pss_nil)
      (pss_one (ps_ret (pe_tup (pa_cons (pe_ix ix_list (pe_lst (pa_cons pe_str (pa_cons pe_str (pa_cons pe_str (pa_cons pe_str (pa_cons pe_str pa_nil)))))) (pe_op op_sub (pv 3) pe_int) (fun _ _ => rfl)) (pa_cons (pe_ix ix_list (pv 6) pe_int (fun _ _ => rfl)) pa_nil)))))))))))))), ?_⟩
    have one : b ∈ [b] := List.mem_singleton.mpr rfl
    refine ⟨_, rfl, b, 8, n, rfl, s0.bag, by omega, by decide, by decide, fun way H1 w0 w1 o1 B1 => ?_⟩
    have S1 : Stp [b] H H1 := o1.stp one
    have s1 := s0.draw S1 B1
    have fin : ∀ H2 m t xs ds, Stp [b] H H2 → Bag H2 b m → m ≤ n + 400 → H2 t = none → RpL K (upd H2 t (.tup xs)) xs ds → xs.length ≤ 10 → Flt (.tup ds) → (Dt.tup ds).dep ≤ 2 → tshD 12 (.tup ds) → wtD (.tup ds) ≤ 5 → Q (.ref t) (upd H2 t (.tup xs)) := fun H2 m t xs ds S2 B2 hm nt rl hx hf hd h9 h8 => by
      have s2 := (s0.draw S2 B2).fresh (o := .tup xs) nt
      exact k _ _ r1 ls ⟨.tup ds, .tup (SqT.of upd_same) (by omega) rl, hf, hd, h9, by omega⟩ ((S2.new' nt).sub b_in) ⟨s2.bag.mono hm, s2.room, s2.pool, s0.br, s0.bp, s0.rp, s0.pos, s0.few⟩
    refine MonoT.cut (t := tOr _ _) (MonoT.or (MonoT.test (Mono.op' MonoR.eq Mono.var Mono.c)) (MonoT.and (MonoT.test (Mono.op' MonoR.i0 (Mono.op' MonoR.ixL Mono.var Mono.c) Mono.c)) (MonoT.test (Mono.op' MonoR.i0 Mono.var Mono.c))))
      (fun c H' => H' = H1 ∧ (c = true ∨ (way ≠ 0 ∧ (way = 1 ∨ 1 ≤ r1)))) ?_ ?_
    · refine ⟨_, rfl, rfl, _, rfl, ite2 (fun h1 => ⟨rfl, .inl rfl⟩) (fun h1 => ?_)⟩
      have g1 : way ≠ 0 := fun e => h1 (decide_eq_true (congrArg V.int e))
      refine ⟨_, rfl, r, _, 1, .int r1, rfl, rfl, SqL.of s1.room, rfl, _, _, rfl, rfl, _, rfl, ite2 (fun h2 => ?_) (fun h2 => ⟨rfl, .inr ⟨g1, .inr ?_⟩⟩)⟩
      · refine ⟨_, rfl, _, _, rfl, rfl, _, rfl, rfl, ?_⟩
        by_cases h3 : 1 < way
        · exact .inl (decide_eq_true h3)
        · exact .inr ⟨g1, .inl (by omega)⟩
      · have : ¬ r1 < 1 := fun e => h2 (decide_eq_true e)
        omega
    rintro c H' ⟨rfl, hc⟩
    refine ite2 (fun ec => ?_) (fun ec => ?_)
    · refine ⟨(by show 1 ≤ sizeLine; decide), fun t nt => ?_⟩
      exact fin _ _ t _ [.str ("none" : Str).cps.toList] S1 B1 (by omega) nt (.cons (Rp.lit _) .nil) (by decide) .none (by decide) ⟨lit9 (by simp), trivial⟩ (by decide)
    obtain ⟨g0, g1⟩ := hc.resolve_left ec
    refine ⟨_, rfl, rfl, _, rfl, ite2 (fun h2 => ?_) (fun h2 => ?_)⟩
    · refine ⟨_, rfl, b, 2, n + 1, rfl, B1, by omega, by decide, by decide, fun d H2 d0 d1 o2 B2 => ?_⟩
      refine ⟨rfl, (by show 2 ≤ sizeLine; decide), fun t nt => ?_⟩
      exact fin _ _ t _ [.str ("say" : Str).cps.toList, .bl _] (S1.trans (o2.stp one)) B2 (by omega) nt (.cons (Rp.lit _) (.cons (.bl _) .nil)) (by simp) (.say _) (by simp [Dt.dep, Dt.depL]) ⟨lit9 (by simp), trivial, trivial⟩ (by simp [wtD, wtL])
    have g2 : 1 ≤ r1 := by
      have : way ≠ 1 := fun e => h2 (decide_eq_true (congrArg V.int e))
      omega
    refine ⟨_, rfl, b, 8, n + 1, rfl, B1, by omega, by decide, by decide, fun d H2 d0 d1 o2 B2 => ?_⟩
    have S2 := S1.trans (o2.stp one)
    have s2 := s0.draw S2 B2
    refine ⟨rfl, _, rfl, ite_tC fun wd hw => ?_⟩
    obtain ⟨u, rfl, u0, u1⟩ : ∃ u, wd = .int u ∧ 4 ≤ u ∧ u ≤ 8 := by
      rcases hw with rfl | rfl
      · exact ⟨8, rfl, by decide, by decide⟩
      · exact ⟨4, rfl, by decide, by decide⟩
    refine Mono.cut (te := tIf _ _ _) (Mono.tif (MonoT.test (Mono.op' MonoR.eq Mono.var Mono.c)) (Mono.cl monoDraw (MonoA.cons Mono.var (MonoA.cons (Mono.op' MonoR.i0 (Mono.cb MonoC.two (MonoA.cons Mono.var (MonoA.cons (Mono.cb MonoC.int1 (MonoA.cons (Mono.op' MonoR.ixL Mono.var Mono.c) MonoA.nil)) MonoA.nil))) Mono.c) MonoA.nil))) Mono.c)
      (fun v H' => ∃ m, v = .int m ∧ 0 ≤ m ∧ m ≤ 8 ∧ m ≤ r1 ∧ (way ≠ 2 → m = 1) ∧ Stp [b] H H' ∧ Bag H' b (n + 3)) ?_ ?_
    · refine ⟨_, rfl, rfl, _, rfl, ite2 (fun h3 => ?_) (fun h3 => ?_)⟩
      · have h3 : way = 2 := V.int.inj (of_decide_eq_true h3)
        refine ⟨_, rfl, _, rfl, _, rfl, r, _, 1, .int r1, rfl, rfl, SqL.of s2.room, rfl, .inl ⟨r1, rfl, u, r1, rfl, _, _, rfl, rfl, b, _, n + 2, rfl, B2, by omega, ?_, ?_, fun m H3 m0 m1 o3 B3 => ?_⟩⟩
        · split <;> omega
        · split <;> omega
        · refine ⟨m, rfl, m0, ?_, ?_, fun e => absurd h3 e, S2.trans (o3.stp one), B3⟩
          · split at m1 <;> omega
          · split at m1 <;> omega
      · exact ⟨1, rfl, by decide, by decide, g2, fun _ => rfl, S2, B2.mono (by omega)⟩
    rintro v H3 ⟨m, rfl, m0, m8, mr, mone, S3, B3⟩
    have s3 := s0.draw S3 B3
    refine ⟨_, rfl, r, _, 1, .int r1, rfl, rfl, SqL.of s3.room, rfl, _, rfl, _, _, rfl, rfl, _, rfl, r, _, 1, 1, rfl, rfl, s3.room, rfl, ?_⟩
    have mr' : r ∈ [b, r, p] := by simp
    have nrb : r ∉ [b] := fun q => s0.br (List.mem_singleton.mp q).symm
    obtain ⟨H4, e4⟩ : ∃ H4, H4 = upd H3 r (.lst ([.int r0, .int r1].set 1 (.int (r1 - m)))) := ⟨_, rfl⟩
    dsimp only
    have S4 : Stp [b, r, p] H H4 := by
      rw [e4]
      exact (S3.sub b_in).put' mr'
    have s4 : Sto N H4 b r p (n + 3) r0 (r1 - m) ls := by
      rw [e4]
      refine ⟨B3.upd s0.br, upd_same, ⟨?_, s0.pool.2⟩, s0.br, s0.bp, s0.rp, by omega, by have := s0.few; omega⟩
      rw [upd_ne s0.rp.symm]
      exact s3.pool.1
    refine ⟨Nat.zero_le _, fun W nW => ?_⟩
    have nW4 : H4 W = none := by
      rw [e4]
      exact nW
    have hx := s4.lsts
    have wne : ∀ q, q ∈ [b, r, p] → W ≠ q := fun q mq e => by
      obtain ⟨xs, ex⟩ := hx q mq
      rw [← e, nW4] at ex
      cases ex
    have wb : W ≠ b := wne b (by simp)
    have wr : W ≠ r := wne r (by simp)
    have wp : W ≠ p := wne p (by simp)
    have nW0 : H W = none := S4.fresh (fun q => wne W q rfl) nW4
    have s5 := s4.fresh (o := .lst []) nW4
    rw [e4] at s5
    refine ⟨_, rfl, m, rfl, by omega, by omega, for_range (lo := 0) (n := m.toNat) (fun i σ H5 => ∃ (ws : List (List Nat)) (x : Option V), ws.length = i ∧ (∀ l ∈ ws, Abc l ∧ l.length ≤ 12) ∧
      σ = [some (.ref b), some (.ref r), some (.ref p), some (.int way), some (.int u), some (.int m), some (.ref W), x] ∧ H5 W = some (.lst (ws.map Tx)) ∧ Stp [b, r, p] H H5 ∧ Sto N H5 b r p (n + 3 + 20 * i) r0 (r1 - m) (ls ++ ws))
      ⟨[], none, rfl, fun l q => (nomatch q), rfl, upd_same, ?_, ?_⟩ ?_ ?_⟩
    · have := S4.new' (o := .lst []) nW4
      rwa [e4] at this
    · rw [List.append_nil]
      exact s5
    · rintro i σ H5 hi ⟨ws, x, hl, ha, rfl, hW, S5, s5⟩
      have few := s0.few
      have hls : ls.length ≤ 1000 := by have := s0.pos; omega
      refine ⟨_, rfl, .inl ⟨rfl, _, SqL.of hW⟩, _, rfl, _, rfl, b, p, _, ls ++ ws, rfl, s5.bag, by omega, s5.pool, ?_, s0.bp, fun l H6 al ll S6 B6 => ?_⟩
      · rw [List.length_append]
        omega
      have hW6 : H6 W = some (.lst (ws.map Tx)) := S6.kp _ _ (fun q => wb (List.mem_singleton.mp q)) hW
      have s6 := s5.draw S6 B6
      refine ⟨W, _, _, rfl, rfl, hW6, ?_, ?_⟩
      · rw [List.length_map, hl]
        exact Nat.lt_of_lt_of_le (show i < 100000 by omega) (by decide)
      have e7 : (upd H6 W (.lst (ws.map Tx ++ [Tx l]))) p = some (.lst ((ls ++ ws).map Tx)) := by
        rw [upd_ne wp.symm]
        exact s6.pool.1
      have e8 : (upd H6 W (.lst (ws.map Tx ++ [Tx l]))) W = some (.lst (ws.map Tx ++ [Tx l])) := upd_same
      refine ⟨_, rfl, .inl ⟨rfl, _, SqL.of e7⟩, _, rfl, _, rfl, W, _, _, Tx l, rfl, rfl, SqL.of e8, ?_, p, _, _, rfl, rfl, e7, ?_, ?_⟩
      · rw [Int.zero_add]
        refine atI_nat ?_
        rw [List.getElem?_append_right (by rw [List.length_map, hl]; exact Nat.le_refl _), List.length_map, hl, Nat.sub_self]
        rfl
      · rw [List.length_map, List.length_append, hl]
        exact Nat.lt_of_lt_of_le (show ls.length + i < 100000 by omega) (by decide)
      · refine ⟨ws ++ [l], _, by simp [hl], fun l' q => ?_, rfl, ?_, ?_, ?_⟩
        · rcases List.mem_append.mp q with q | q
          · exact ha l' q
          · rw [List.mem_singleton.mp q]
            exact ⟨al, ll⟩
        · rw [upd_ne wp, e8, List.map_append]
          rfl
        · exact ((S5.trans (S6.sub b_in)).mut nW0).put' (by simp)
        · refine ⟨?_, ?_, ⟨?_, fun l' q => ?_⟩, s0.br, s0.bp, s0.rp, by omega, ?_⟩
          · exact ((B6.upd wb.symm).upd s0.bp).mono (by omega)
          · rw [upd_ne s0.rp, upd_ne wr.symm]
            exact s6.room
          · rw [upd_same, ← List.append_assoc, List.map_append (l₂ := [l])]
            rfl
          · rw [← List.append_assoc] at q
            rcases List.mem_append.mp q with q | q
            · exact s6.pool.2 l' q
            · rw [List.mem_singleton.mp q]
              exact ⟨al, ll⟩
          · rw [List.length_append, List.length_append, hl, List.length_singleton]
            omega
    · rintro σ H5 ⟨ws, x, hl, ha, rfl, hW, S5, s5⟩
      have bud : n + 3 + 20 * m.toNat ≤ n + 400 := by omega
      have s6 : Sto N H5 b r p (n + 400) r0 (r1 - m) (ls ++ ws) := ⟨s5.bag.mono bud, s5.room, s5.pool, s0.br, s0.bp, s0.rp, s5.pos, s5.few⟩
      have hws : ∀ l ∈ ws, l.length ≤ 100000 := fun l q => Nat.le_trans (ha l q).2 (by decide)
      refine ⟨_, rfl, rfl, _, rfl, ite2 (fun h3 => ?_) (fun h3 => ?_)⟩
      · refine ⟨_, rfl, W, _, rfl, .inl ⟨SqL.of hW, fun t nt => ⟨(by show 2 ≤ sizeLine; decide), fun t2 nt2 => ?_⟩⟩⟩
        have ntt : t ≠ t2 := ne_of_none upd_same nt2
        refine k _ _ (r1 - m) (ls ++ ws) ⟨.tup [.str ("among" : Str).cps.toList, .tup (ws.map Dt.str)], .tup (SqT.of upd_same) (by simp) (.cons (Rp.lit _) (.cons (.tup (SqT.of (Eq.trans (upd_ne ntt) upd_same)) ?_ (RpL.strs hws)) .nil)), .among fun d q => ?_, ?_, ⟨lit9 (by simp), tshL_of (fun d q => ?_), trivial⟩, ?_⟩ ((S5.new' nt).new' nt2) ((s6.fresh nt).fresh nt2)
        · rw [List.length_map, hl]
          omega
        · obtain ⟨l, ml, rfl⟩ := List.mem_map.mp q
          exact ⟨l, rfl, (ha l ml).1⟩
        · simp [Dt.dep, Dt.depL, dep_strs]
        · obtain ⟨l, ml, rfl⟩ := List.mem_map.mp q
          exact (ha l ml).2
        · have w1 : wtD (.tup [.str ("among" : Str).cps.toList, .tup (ws.map Dt.str)]) = 1 + (wtL (ws.map Dt.str) + 2) + 2 := rfl
          rw [w1, wt_strs, hl]
          omega
      · have g3 : way ≠ 2 := fun e => h3 (decide_eq_true (congrArg V.int e))
        have m1 := mone g3
        have g4 : way ≠ 1 := fun e => h2 (decide_eq_true (congrArg V.int e))
        obtain ⟨l, rfl⟩ : ∃ l, ws = [l] := by
          cases ws with
          | nil => simp [m1] at hl
          | cons l ws =>
            cases ws with
            | nil => exact ⟨l, rfl⟩
            | cons _ _ => simp [m1] at hl
        obtain ⟨al, ll⟩ := ha l (by simp)
        refine ⟨(by show 5 ≤ sizeLine; decide), fun q nq => ?_⟩
        have s7 := s6.fresh (o := .lst [.str "is", .str "below", .str "above", .str "begins", .str "is"]) nq
        obtain ⟨v, mv, ev⟩ := pick (xs := ([.str "is", .str "below", .str "above", .str "begins", .str "is"] : List V)) (d := way - 3) (by omega) (by simp; omega)
        have hq : (upd H5 q (.lst [.str "is", .str "below", .str "above", .str "begins", .str "is"])) W = some (.lst [Tx l]) := by
          rw [upd_ne (ne_of_none hW nq)]
          exact hW
        refine ⟨_, rfl, _, _, rfl, rfl, q, _, way - 3, v, rfl, rfl, SqL.of upd_same, ev, _, rfl, W, _, 0, Tx l, rfl, rfl, SqL.of hq, at0, (by show 2 ≤ sizeLine; decide), fun t nt => ?_⟩
        obtain ⟨wd, rfl, hwd⟩ : ∃ wd : Str, v = .str wd ∧ (wd = "is" ∨ wd = "below" ∨ wd = "above" ∨ wd = "begins") := by
          simp at mv
          rcases mv with rfl | rfl | rfl | rfl | rfl
          · exact ⟨_, rfl, .inl rfl⟩
          · exact ⟨_, rfl, .inr (.inl rfl)⟩
          · exact ⟨_, rfl, .inr (.inr (.inl rfl))⟩
          · exact ⟨_, rfl, .inr (.inr (.inr rfl))⟩
          · exact ⟨_, rfl, .inl rfl⟩
        have lw : wd.cps.toList.length ≤ 100000 := by
          rcases hwd with rfl | rfl | rfl | rfl <;> decide +kernel
        exact k _ _ (r1 - m) (ls ++ [l]) ⟨.tup [.str wd.cps.toList, .str l], .tup (SqT.of upd_same) (by simp) (.cons (Rp.lit wd lw) (.cons (.str l (Nat.le_trans ll (by decide))) .nil)), .tx hwd al, by simp [Dt.dep, Dt.depL], ⟨lit9 (by rcases hwd with rfl | rfl | rfl | rfl <;> simp), Nat.le_trans ll (by decide), trivial⟩, by simp [wtD, wtL]; omega⟩ ((S5.new' nq).new' nt) (s7.fresh nt)
abbrev s__law_sieve : Stmt := topS 49
abbrev N__law_sieve : List Str := ["bag", "room", "pool", "levels", "way", "parts", "k"]
theorem sc__law_sieve : FnScope ["bag", "room", "pool", "levels", "way", "parts", "k"] ["bag", "room", "pool", "levels"] (defScope s__law_sieve) := ⟨rfl, rfl, rfl, by decide +kernel, rfl, by decide +kernel, by decide +kernel⟩

theorem wtL_app : ∀ (a b : List Dt), wtL (a ++ b) = wtL a + wtL b
  | [], b => (Nat.zero_add _).symm
  | d :: a, b => by
    show wtD d + wtL (a ++ b) = wtD d + wtL a + wtL b
    rw [wtL_app a b, Nat.add_assoc]
/-- so many draws at most for so many levels -/
def cst : Nat → Nat
  | 0 => 1100
  | n + 1 => 1100 + 12 * cst n
theorem cst_pos : ∀ n, 1100 ≤ cst n
  | 0 => Nat.le_refl _
  | n + 1 => by show 1100 ≤ 1100 + 12 * cst n; omega
theorem cst_le {m n : Nat} (h : m ≤ n) : cst m ≤ cst n := by
  induction h with
  | refl => exact Nat.le_refl _
  | step h ih => rename_i k; show cst m ≤ 1100 + 12 * cst k; omega
def spSieve (K : PySem.W.Frag) (lv : Nat) : Sp := fun vs H Q _ => ∃ (N : Int) (b r p : Addr) (n : Nat) (r0 r1 : Int) (ls : List (List Nat)) (j : Nat), vs = [.ref b, .ref r, .ref p, .int (j : Int)] ∧ j < lv ∧ 1 ≤ r0 ∧ Sto N H b r p n r0 r1 ls ∧ n + cst j < 2 ^ 30 ∧
  ∀ v H' r0' r1' ls', Made K H' v (2 * j + 2) (5 * (r0 - r0') + (r1 - r1')) → 0 ≤ r0' → Stp [b, r, p] H H' → Sto N H' b r p (n + cst j) r0' r1' ls' → Q v H'
theorem sieve_step {f : Addr} {fd : FuncData} (D : Df K mg "_law_sieve" s__law_sieve ["bag", "room", "pool", "levels"] f fd) (T : Nm mg) (c__law_draw : Cl P w K mg base 1 "_law_draw" s__law_draw ["bag", "upto"] spDraw)
    (c__law_leaf : Cl P w K mg base 4 "_law_leaf" s__law_leaf ["bag", "room", "pool"] (spLeaf K)) {lv m : Nat} (hm : 4 ≤ m) (c__law_sieve : Cl P w K mg base m "_law_sieve" s__law_sieve ["bag", "room", "pool", "levels"] (spSieve K lv)) :
    Cl P w K mg base (m + 1) "_law_sieve" s__law_sieve ["bag", "room", "pool", "levels"] (spSieve K (lv + 1)) := by
  refine D.cl sc__law_sieve (fun vs H Q E h => ?_) (fun cdv A outer s H vs Q E hr h => ?_)
  · obtain ⟨N, b, r, p, n, r0, r1, ls, j, rfl, _⟩ := h
    rfl
  · obtain ⟨N, b, r, p, n, r0, r1, ls, j, rfl, hj, hr0, s0, hn, k⟩ := h
    refine ⟨_, (pss_cons (ps_asg (pe_op op_sub (pe_ix ix_list (pv 1) pe_int (fun _ _ => rfl)) pe_int) (pg_sub (pv 1) pe_int set_list))
      (pss_cons (ps_set (i := 4) sc__law_sieve.nd rfl (by first | exact Or.inl rfl | exact Or.inr rfl) (pe_cl c__law_draw hr (by omega) (pa_cons (pv 0) (pa_cons pe_int pa_nil))))
      (pss_cons (ps_if (PW.pt (pw_or (pt_cmpR op_lt (pv 3) pe_int (by first | exact nomark _ | rfl)) (pw_or (pt_cmpR op_lt (pe_ix ix_list (pv 1) pe_int (fun _ _ => rfl)) pe_int (by first | exact nomark _ | rfl)) (pw_or1 (pt_cmpR op_gt (pv 4) pe_int (by first | exact nomark _ | rfl)))))) (pss_one (ps_ret (pe_cl c__law_leaf hr (by omega) (pa_cons (pv 0) (pa_cons (pv 1) (pa_cons (pv 2) pa_nil)))))) pss_nil)
      (pss_cons (ps_if (pt_cmpR op_eq (pv 4) pe_int (by first | exact nomark _ | rfl)) (pss_one (ps_ret (pe_tup (pa_cons pe_str (pa_cons (pe_cl c__law_sieve hr (by omega) (pa_cons (pv 0) (pa_cons (pv 1) (pa_cons (pv 2) (pa_cons (pe_op op_sub (pv 3) pe_int) pa_nil))))) pa_nil))))) pss_nil)
      (pss_cons (ps_set (i := 5) sc__law_sieve.nd rfl (by first | exact Or.inl rfl | exact Or.inr rfl) (pe_lst pa_nil))
      (pss_cons (ps_for PassesOwn.never rfl (pi_range1 (by rfl) T.n_range (pa_cons (pe_cl c__law_draw hr (by omega) (pa_cons (pv 0) (pa_cons (pe_ifExp (pt_cmpR op_eq (pe_cl c__law_draw hr (by omega) (pa_cons (pv 0) (pa_cons pe_int pa_nil))) pe_int (by first | exact nomark _ | rfl)) pe_int pe_int) pa_nil))) pa_nil)) (pg_name (i := 6) sc__law_sieve.nd rfl (by first | exact Or.inl rfl | exact Or.inr rfl)) (pss_one (ps_if (pt_cmpR op_gt (pe_ix ix_list (pv 1) pe_int (fun _ _ => rfl)) pe_int (by first | exact nomark _ | rfl)) (pss_one (ps_expr (pe_bm PySem.F.plainAttrs_list PySem.F.slot_list_append PySem.F.type_list_append mt_append (pv 5) (pa_cons (pe_cl c__law_sieve hr (by omega) (pa_cons (pv 0) (pa_cons (pv 1) (pa_cons (pv 2) (pa_cons (pe_op op_sub (pv 3) pe_int) pa_nil))))) pa_nil)))) pss_nil)))
      (pss_one (ps_ret (pe_tup (pa_cons (pe_ix ix_list (pe_lst (pa_cons pe_str (pa_cons pe_str pa_nil))) (pe_op op_mod (pe_callTy call_int1 (by rfl) T.n_int (by decide +kernel) (pa_cons (pv 4) pa_nil)) pe_int) (fun _ _ => rfl)) (pa_cons (pe_callTy call_tuple_of (by rfl) T.n_tuple (by decide +kernel) (pa_cons (pv 5) pa_nil)) pa_nil))))))))))), ?_⟩
    have one : b ∈ [b] := List.mem_singleton.mpr rfl
    have cp := cst_pos j
    refine ⟨_, rfl, r, _, 0, .int r0, rfl, rfl, SqL.of s0.room, rfl, _, _, rfl, rfl, _, rfl, r, _, 0, 0, rfl, rfl, s0.room, rfl, ?_⟩
    have S1 : Stp [b, r, p] H (upd H r (.lst ([.int r0, .int r1].set 0 (.int (r0 - 1))))) := Stp.put (by simp)
    have s1 : Sto N (upd H r (.lst ([.int r0, .int r1].set 0 (.int (r0 - 1))))) b r p n (r0 - 1) r1 ls :=
      ⟨s0.bag.upd s0.br, upd_same, ⟨by rw [upd_ne s0.rp.symm]; exact s0.pool.1, s0.pool.2⟩, s0.br, s0.bp, s0.rp, s0.pos, s0.few⟩
    refine ⟨_, rfl, b, 6, n, rfl, s1.bag, by omega, by decide, by decide, fun way H2 w0 w1 o2 B2 => ?_⟩
    have S2 := S1.trans ((o2.stp one).sub b_in)
    have s2 := s1.draw (o2.stp one) B2
    refine MonoT.cut (t := tOr _ _) (MonoT.or (MonoT.test (Mono.op' MonoR.i0 Mono.var Mono.c)) (MonoT.or (MonoT.test (Mono.op' MonoR.i0 (Mono.op' MonoR.ixL Mono.var Mono.c) Mono.c)) (MonoT.test (Mono.op' MonoR.i0 Mono.var Mono.c))))
      (fun c H' => H' = H2 ∧ (c = true ∨ (2 ≤ j ∧ way ≤ 3 ∧ 1 ≤ r0 - 1))) ?_ ?_
    · refine ⟨_, rfl, _, _, rfl, rfl, _, rfl, ite2 (fun h1 => ⟨rfl, .inl rfl⟩) (fun h1 => ?_)⟩
      refine ⟨_, rfl, r, _, 0, .int (r0 - 1), rfl, rfl, SqL.of s2.room, rfl, _, _, rfl, rfl, _, rfl, ite2 (fun h2 => ⟨rfl, .inl rfl⟩) (fun h2 => ?_)⟩
      refine ⟨_, rfl, _, _, rfl, rfl, _, rfl, rfl, ?_⟩
      by_cases h3 : 3 < way
      · exact .inl (decide_eq_true h3)
      · have : ¬ (j : Int) < 2 := fun e => h1 (decide_eq_true e)
        have : ¬ r0 - 1 < 1 := fun e => h2 (decide_eq_true e)
        exact .inr ⟨by omega, by omega, by omega⟩
    rintro c H' ⟨rfl, hc⟩
    refine ite2 (fun ec => ?_) (fun ec => ?_)
    · refine ⟨_, rfl, _, rfl, _, rfl, N, b, r, p, n + 1, _, _, ls, rfl, s2, by omega, fun v H3 r1' ls' md S3 s3 => ?_⟩
      obtain ⟨d, rd, fd', dd, td, wd'⟩ := md
      exact k v H3 _ r1' ls' ⟨d, rd, fd', by omega, td, by omega⟩ (by omega) (S2.trans S3) ⟨s3.bag.mono (by omega), s3.room, s3.pool, s0.br, s0.bp, s0.rp, s3.pos, s3.few⟩
    obtain ⟨j2, w3, r02⟩ := hc.resolve_left ec
    obtain ⟨i, rfl⟩ : ∃ i, j = i + 1 := ⟨j - 1, by omega⟩
    have ec2 : cst (i + 1) = 1100 + 12 * cst i := rfl
    refine ⟨_, rfl, rfl, _, rfl, ite2 (fun h1 => ?_) (fun h1 => ?_)⟩
    · refine ⟨_, rfl, _, rfl, _, rfl, _, rfl, _, _, rfl, rfl, N, b, r, p, n + 1, _, _, ls, i, ?_, by omega, r02, s2, by omega, fun v H3 r0' r1' ls' md h0 S3 s3 => ?_⟩
      · have : ((i + 1 : Nat) : Int) - 1 = (i : Int) := by omega
        show [V.ref b, V.ref r, V.ref p, V.int (((i + 1 : Nat) : Int) - 1)] = _
        rw [this]
      · obtain ⟨d, rd, fd', dd, td, wd'⟩ := md
        refine ⟨(by show 2 ≤ sizeLine; decide), fun t nt => ?_⟩
        refine k _ _ r0' r1' ls' ⟨.tup [.str ("not" : Str).cps.toList, d], .tup (SqT.of upd_same) (by simp) (.cons (Rp.lit _) (.cons (rd.stp (Stp.new nt []) Lsts.nil) .nil)), .not fd', ?_, ⟨lit9 (by simp), td, trivial⟩, ?_⟩ h0 ((S2.trans S3).new' nt) ?_
        · simp [Dt.dep, Dt.depL]
          omega
        · show ((1 + (wtD d + 0) + 2 : Nat) : Int) ≤ _
          omega
        · have s4 := s3.fresh (o := .tup [.str "not", v]) nt
          exact ⟨s4.bag.mono (by omega), s4.room, s4.pool, s0.br, s0.bp, s0.rp, s4.pos, s4.few⟩
    refine ⟨Nat.zero_le _, fun W nW => ?_⟩
    have hx := s2.lsts
    have wne : ∀ q, q ∈ [b, r, p] → W ≠ q := fun q mq e => by
      obtain ⟨xs, ex⟩ := hx q mq
      rw [← e, nW] at ex
      cases ex
    have wb : W ≠ b := wne b (by simp)
    have wr : W ≠ r := wne r (by simp)
    have wp : W ≠ p := wne p (by simp)
    have wS : W ∉ [b, r, p] := fun q => wne W q rfl
    have nW0 : H W = none := S2.fresh wS nW
    have s3 := s2.fresh (o := .lst []) nW
    refine ⟨_, rfl, _, rfl, b, 8, n + 1, rfl, s3.bag, by omega, by decide, by decide, fun d3 H4 d30 d31 o4 B4 => ?_⟩
    refine ⟨rfl, _, rfl, ite_tC fun wd hw => ?_⟩
    obtain ⟨u, rfl, u0, u1⟩ : ∃ u, wd = .int u ∧ 4 ≤ u ∧ u ≤ 12 := by
      rcases hw with rfl | rfl
      · exact ⟨12, rfl, by decide, by decide⟩
      · exact ⟨4, rfl, by decide, by decide⟩
    refine ⟨b, u, n + 2, rfl, B4, by omega, by omega, by omega, fun z H5 z0 z1 o5 B5 => ?_⟩
    have S3 : Stp [b, r, p] H (upd _ W (.lst [])) := S2.new' nW
    have S5 := (S3.trans ((o4.stp one).sub b_in)).trans ((o5.stp one).sub b_in)
    have s5 := (s3.draw (o4.stp one) B4).draw (o5.stp one) B5
    have hW5 : H5 W = some (.lst []) := o5.at (o4.at upd_same wb) wb
    refine ⟨z, rfl, by omega, by omega, for_range (lo := 0) (n := z.toNat) (fun q σ H6 => ∃ (xs : List V) (ds : List Dt) (r0' r1' : Int) (ls' : List (List Nat)) (x : Option V), xs.length ≤ q ∧ RpL K H6 xs ds ∧ (∀ d ∈ ds, (Flt d ∧ d.dep ≤ 2 * i + 2) ∧ tshD 12 d) ∧ (wtL ds : Int) ≤ 5 * (r0 - 1 - r0') + (r1 - r1') ∧ 0 ≤ r0' ∧
      σ = [some (.ref b), some (.ref r), some (.ref p), some (.int ((i + 1 : Nat) : Int)), some (.int way), some (.ref W), x] ∧ H6 W = some (.lst xs) ∧ Stp [b, r, p] H H6 ∧ Sto N H6 b r p (n + 3 + cst i * q) r0' r1' ls')
      ⟨[], [], _, _, ls, none, Nat.le_refl _, .nil, fun d q => (nomatch q), (by show ((0 : Nat) : Int) ≤ _; omega), (by omega), rfl, hW5, S5, s5⟩ ?_ ?_⟩
    · rintro q σ H6 hq ⟨xs, ds, r0', r1', ls', x, hl, rl, hf, hwt, h0', rfl, hW, S6, s6⟩
      have hq11 : cst i * q ≤ cst i * 10 := Nat.mul_le_mul_left _ (by omega)
      refine ⟨_, rfl, r, _, 0, .int r0', rfl, rfl, SqL.of s6.room, rfl, _, _, rfl, rfl, _, rfl, ite2 (fun h2 => ?_) (fun h2 => ?_)⟩
      · refine ⟨_, rfl, .inl ⟨rfl, _, SqL.of hW⟩, _, rfl, _, rfl, _, rfl, _, rfl, _, _, rfl, rfl, N, b, r, p, _, _, _, ls', i, ?_, by omega, ?_, s6, ?_, fun v H7 r0'' r1'' ls'' md h0'' S7 s7 => ?_⟩
        · have : ((i + 1 : Nat) : Int) - 1 = (i : Int) := by omega
          show [V.ref b, V.ref r, V.ref p, V.int (((i + 1 : Nat) : Int) - 1)] = _
          rw [this]
        · have : 0 < r0' := of_decide_eq_true h2
          omega
        · have : cst i * q + cst i ≤ cst i * 12 := by
            have : cst i * (q + 1) ≤ cst i * 12 := Nat.mul_le_mul_left _ (by omega)
            rwa [Nat.mul_add, Nat.mul_one] at this
          omega
        · obtain ⟨d, rd, fd', dd, td, wd'⟩ := md
          have hW7 : H7 W = some (.lst xs) := S7.kp _ _ wS hW
          have lW : Lsts H7 [W] := .one hW7
          have S8 : Stp [W] H7 (upd H7 W (.lst (xs ++ [v]))) := Stp.put (by simp)
          refine ⟨W, _, _, rfl, rfl, hW7, Nat.lt_of_lt_of_le (show xs.length < 100000 by omega) (by decide), ?_⟩
          refine ⟨xs ++ [v], ds ++ [d], r0'', r1'', ls'', _, by simp; omega, ?_, fun e me => ?_, ?_, h0'', rfl, upd_same, (S6.trans S7).mut nW0, ?_⟩
          · exact (rl.stp S7 s6.lsts |>.stp S8 lW).app (.cons (rd.stp S8 lW) .nil)
          · rcases List.mem_append.mp me with me | me
            · exact hf e me
            · rw [List.mem_singleton.mp me]
              exact ⟨⟨fd', dd⟩, td⟩
          · rw [wtL_app]
            show ((wtL ds + (wtD d + 0) : Nat) : Int) ≤ _
            omega
          · refine ⟨(s7.bag.upd wb.symm).mono ?_, by rw [upd_ne wr.symm]; exact s7.room, ⟨by rw [upd_ne wp.symm]; exact s7.pool.1, s7.pool.2⟩, s0.br, s0.bp, s0.rp, s7.pos, s7.few⟩
            rw [Nat.mul_add, Nat.mul_one]
            omega
      · refine ⟨xs, ds, r0', r1', ls', _, by omega, rl, hf, hwt, h0', rfl, hW, S6, ⟨s6.bag.mono ?_, s6.room, s6.pool, s0.br, s0.bp, s0.rp, s6.pos, s6.few⟩⟩
        rw [Nat.mul_add]
        omega
    · rintro σ H6 ⟨xs, ds, r0', r1', ls', x, hl, rl, hf, hwt, h0', rfl, hW, S6, s6⟩
      have bud : cst i * z.toNat ≤ cst i * 12 := Nat.mul_le_mul_left _ (by omega)
      refine ⟨(by show 2 ≤ sizeLine; decide), fun q nq => ?_⟩
      obtain ⟨v, mv, ev⟩ := pick (xs := ([.str "and", .str "or"] : List V)) (d := way % 2) (by omega) (by simp; omega)
      have S7 : Stp [] H6 (upd H6 q (.lst [.str "and", .str "or"])) := Stp.new nq _
      have hq : (upd H6 q (.lst [.str "and", .str "or"])) W = some (.lst xs) := S7.kp _ _ (fun m => nomatch m) hW
      refine ⟨_, rfl, .inl ⟨_, rfl, _, _, rfl, rfl, (by show (0 : Int) < 2; decide), q, _, way % 2, v, rfl, rfl, SqL.of upd_same, ev, ?_⟩⟩
      obtain ⟨wd, rfl, hwd⟩ : ∃ wd : Str, v = .str wd ∧ (wd = "and" ∨ wd = "or") := by
        simp at mv
        rcases mv with rfl | rfl
        · exact ⟨_, rfl, .inl rfl⟩
        · exact ⟨_, rfl, .inr rfl⟩
      have lw : wd.cps.toList.length ≤ 100000 := by
        rcases hwd with rfl | rfl <;> decide +kernel
      refine ⟨_, rfl, W, _, rfl, .inl ⟨SqL.of hq, fun t nt => ⟨(by show 2 ≤ sizeLine; decide), fun t2 nt2 => ?_⟩⟩⟩
      have ntt : t ≠ t2 := ne_of_none upd_same nt2
      have S8 := Stp.new (o := .tup xs) nt []
      have S9 := Stp.new (o := .tup [.str wd, .ref t]) nt2 []
      refine k _ _ r0' r1' ls' ⟨.tup [.str wd.cps.toList, .tup ds], .tup (SqT.of upd_same) (by simp) (.cons (Rp.lit wd lw) (.cons (.tup (SqT.of (Eq.trans (upd_ne ntt) upd_same)) (by omega) ?_) .nil)),   .many hwd fun d md => (hf d md).1.1, ?_, ⟨lit9 (by rcases hwd with rfl | rfl <;> simp), tshL_of fun d md => (hf d md).2, trivial⟩, ?_⟩ h0' (((S6.new' nq).new' nt).new' nt2) ?_
      · exact (((rl.stp S7 Lsts.nil).stp S8 Lsts.nil).stp S9 Lsts.nil)
      · have : Dt.depL ds ≤ 2 * i + 2 := Dt.depL_le fun d md => (hf d md).1.2
        simp [Dt.dep, Dt.depL]
        omega
      · show ((1 + ((wtL ds + 2) + 0) + 2 : Nat) : Int) ≤ _
        omega
      · have s9 := ((s6.fresh (o := .lst [.str "and", .str "or"]) nq).fresh (o := .tup xs) nt).fresh (o := .tup [.str wd, .ref t]) nt2
        exact ⟨s9.bag.mono (by omega), s9.room, s9.pool, s0.br, s0.bp, s0.rp, s9.pos, s9.few⟩
theorem cl__law_sieve {f : Addr} {fd : FuncData} (D : Df K mg "_law_sieve" s__law_sieve ["bag", "room", "pool", "levels"] f fd) (T : Nm mg) (c__law_draw : Cl P w K mg base 1 "_law_draw" s__law_draw ["bag", "upto"] spDraw)
    (c__law_leaf : Cl P w K mg base 4 "_law_leaf" s__law_leaf ["bag", "room", "pool"] (spLeaf K)) : ∀ lv : Nat, Cl P w K mg base (4 + lv) "_law_sieve" s__law_sieve ["bag", "room", "pool", "levels"] (spSieve K lv)
  | 0 => cl_never D (fun vs H Q E ⟨N, b, r, p, n, r0, r1, ls, j, _, hj, _⟩ => Nat.not_lt_zero _ hj) _
  | lv + 1 => sieve_step D T c__law_draw c__law_leaf (Nat.le_add_right 4 lv) (cl__law_sieve D T c__law_draw c__law_leaf lv)
/-! ### levels without a number -/
theorem lt_of_le_ne' {a b : Txt} (h : a ≤ b) (n : a ≠ b) : a < b := by
  by_cases c : a < b
  · exact c
  · exact absurd (List.le_antisymm h (le_of_nlt c)) n
theorem lev_stab : ∀ (n m : Nat) (t : Vl) (d : Dt), d.dep < n → d.dep < m → lev n t d = lev m t d
  | 0, _, _, _, h, _ => absurd h (Nat.not_lt_zero _)
  | _ + 1, 0, _, _, _, h => absurd h (Nat.not_lt_zero _)
  | n + 1, m + 1, t, d, h1, h2 => by
    show levS (lev n t) t d = levS (lev m t) t d
    have two : ∀ (w p : Dt), d = .tup [w, p] → p.dep < n ∧ p.dep < m := fun w p e => by
      subst e
      have h3 := Dt.dep_mem (ds := [w, p]) (d := p) (by simp)
      have e : (Dt.tup [w, p]).dep = Dt.depL [w, p] + 1 := rfl
      omega
    unfold levS
    split
    · rfl
    · rename_i w p
      obtain ⟨g1, g2⟩ := two _ p rfl
      have e1 : lev n t p = lev m t p := lev_stab n m t p g1 g2
      have e2 : ∀ ds, p = .tup ds → ds.map (lev n t) = ds.map (lev m t) := fun ds e => by
        subst e
        refine List.map_congr_left fun d md => ?_
        have h3 := Dt.dep_mem md
        have e : (Dt.tup ds).dep = Dt.depL ds + 1 := rfl
        exact lev_stab n m t d (by omega) (by omega)
      unfold levW
      split
      · rfl
      · split
        · rw [e1]
        · split
          · cases p with
            | tup ds => show foldMin (ds.map (lev n t)) 2 = foldMin (ds.map (lev m t)) 2; rw [e2 ds rfl]
            | _ => rfl
          · split
            · cases p with
              | tup ds => show foldMax (ds.map (lev n t)) 0 = foldMax (ds.map (lev m t)) 0; rw [e2 ds rfl]
              | _ => rfl
            · rfl
    · rfl
def lvs (t : Vl) (d : Dt) : Int := lev (d.dep + 1) t d
theorem lvs_lev {n : Nat} {d : Dt} (t : Vl) (h : d.dep < n) : lev n t d = lvs t d := lev_stab _ _ t d h (Nat.lt_succ_self _)
theorem lvs_in (t : Vl) (d : Dt) : In3 (lvs t d) := lev_in _ t d
def txD (w : Str) (y : Txt) : Dt := .tup [.str w.cps.toList, .str y]
def manyD (w : Str) (ds : List Dt) : Dt := .tup [.str w.cps.toList, .tup ds]
def amgD (ys : List Txt) : Dt := .tup [.str ("among" : Str).cps.toList, .tup (ys.map Dt.str)]
def nonD : Dt := .tup [.str ("none" : Str).cps.toList]
def sayD (b : Bool) : Dt := .tup [.str ("say" : Str).cps.toList, .bl b]
def notD (d : Dt) : Dt := .tup [.str ("not" : Str).cps.toList, d]
theorem lvs_non (t : Vl) : lvs t nonD = bLev (decide (t = none)) := rfl
theorem lvs_say (t : Vl) (b : Bool) : lvs t (sayD b) = bLev b := by
  show lev _ t (.tup [.str ("say" : Str).cps.toList, .bl b]) = _
  rw [lev_two, lev_say]
theorem dep_not (d : Dt) : (notD d).dep = d.dep + 1 := by simp [notD, Dt.dep, Dt.depL]
theorem dep_many (w : Str) (ds : List Dt) : (manyD w ds).dep = Dt.depL ds + 2 := by simp [manyD, Dt.dep, Dt.depL]
theorem lvs_not (t : Vl) (d : Dt) : lvs t (notD d) = 2 - lvs t d := by
  show lev ((notD d).dep + 1) t (.tup [.str ("not" : Str).cps.toList, d]) = _
  rw [lev_two, lev_not, lvs_lev t (by rw [dep_not]; omega)]
theorem lvs_map (t : Vl) {n : Nat} {ds : List Dt} (h : Dt.depL ds < n) : ds.map (lev n t) = ds.map (lvs t) := List.map_congr_left fun d md => lvs_lev t (by have := Dt.dep_mem md; omega)
theorem lvs_and (t : Vl) (ds : List Dt) : lvs t (manyD "and" ds) = foldMin (ds.map (lvs t)) 2 := by
  show lev ((manyD "and" ds).dep + 1) t (.tup [.str ("and" : Str).cps.toList, .tup ds]) = _
  rw [lev_two, lev_and, lvs_map t (by rw [dep_many]; omega)]
theorem lvs_or (t : Vl) (ds : List Dt) : lvs t (manyD "or" ds) = foldMax (ds.map (lvs t)) 0 := by
  show lev ((manyD "or" ds).dep + 1) t (.tup [.str ("or" : Str).cps.toList, .tup ds]) = _
  rw [lev_two, lev_or, lvs_map t (by rw [dep_many]; omega)]
theorem lvs_tn {w : Str} (hw : TxW w) (p : Dt) : lvs none (.tup [.str w.cps.toList, p]) = 1 := by
  show lev _ none (.tup [.str w.cps.toList, p]) = 1
  rw [lev_two, lev_txn _ hw]
theorem lvs_tx {w : Str} (hw : w = "is" ∨ w = "below" ∨ w = "above" ∨ w = "begins") (x y : Txt) : lvs (some x) (txD w y) = bLev (fits w y x) := by
  obtain ⟨tw, na⟩ := txw_tx hw
  show lev _ (some x) (.tup [.str w.cps.toList, .str y]) = _
  rw [lev_two, lev_txs _ tw na]
theorem lvs_amg (x : Txt) (ys : List Txt) : lvs (some x) (amgD ys) = bLev (decide (x ∈ ys)) := by
  show lev _ (some x) (.tup [.str ("among" : Str).cps.toList, .tup (ys.map Dt.str)]) = _
  rw [lev_two, lev_among, List.any_map]
  congr 1
  rw [Bool.eq_iff_iff, List.any_eq_true, decide_eq_true_iff]
  exact ⟨fun ⟨y, hy, e⟩ => by have e : x = y := of_decide_eq_true e; exact e ▸ hy, fun h => ⟨x, h, decide_eq_true rfl⟩⟩
/-! ### the least, the greatest -/
def lo (ns : List Int) : Int := if 0 ∈ ns then 0 else if 1 ∈ ns then 1 else 2
def hi (ns : List Int) : Int := if 2 ∈ ns then 2 else if 1 ∈ ns then 1 else 0
theorem fmin_lo {ns : List Int} (h : ∀ x ∈ ns, In3 x) : foldMin ns 2 = lo ns := by
  unfold lo
  split
  · rename_i m
    exact (fmin_iff h 0 (.inl rfl)).mpr ⟨m, fun x mx => by have := h x mx; unfold In3 at this; omega⟩
  · rename_i m0
    split
    · rename_i m
      refine (fmin_iff h 1 (.inr rfl)).mpr ⟨m, fun x mx => ?_⟩
      have h1 := h x mx
      have : x ≠ 0 := fun e => m0 (e ▸ mx)
      unfold In3 at h1
      omega
    · rename_i m1
      rcases in3_fmin h with e | e | e
      · exact absurd ((fmin_iff h 0 (.inl rfl)).mp e).1 m0
      · exact absurd ((fmin_iff h 1 (.inr rfl)).mp e).1 m1
      · exact e
theorem fmax_hi {ns : List Int} (h : ∀ x ∈ ns, In3 x) : foldMax ns 0 = hi ns := by
  unfold hi
  split
  · rename_i m
    exact (fmax_iff h 2 (.inr rfl)).mpr ⟨m, fun x mx => by have := h x mx; unfold In3 at this; omega⟩
  · rename_i m0
    split
    · rename_i m
      refine (fmax_iff h 1 (.inl rfl)).mpr ⟨m, fun x mx => ?_⟩
      have h1 := h x mx
      have : x ≠ 2 := fun e => m0 (e ▸ mx)
      unfold In3 at h1
      omega
    · rename_i m1
      rcases in3_fmax h with e | e | e
      · exact e
      · exact absurd ((fmax_iff h 1 (.inl rfl)).mp e).1 m1
      · exact absurd ((fmax_iff h 2 (.inr rfl)).mp e).1 m0
theorem lvs_all (t : Vl) (ds : List Dt) : ∀ x ∈ ds.map (lvs t), In3 x := fun x m => by
  obtain ⟨d, _, rfl⟩ := List.mem_map.mp m
  exact lvs_in t d
theorem lvs_lo (t : Vl) (ds : List Dt) : lvs t (manyD "and" ds) = lo (ds.map (lvs t)) := by rw [lvs_and, fmin_lo (lvs_all t ds)]
theorem lvs_hi (t : Vl) (ds : List Dt) : lvs t (manyD "or" ds) = hi (ds.map (lvs t)) := by rw [lvs_or, fmax_hi (lvs_all t ds)]
theorem lo_congr {ns ms : List Int} (h0 : 0 ∈ ns ↔ 0 ∈ ms) (h1 : 0 ∉ ns → (1 ∈ ns ↔ 1 ∈ ms)) : lo ns = lo ms := by
  unfold lo
  by_cases a : 0 ∈ ns
  · rw [if_pos a, if_pos (h0.mp a)]
  · rw [if_neg a, if_neg (fun q => a (h0.mpr q))]
    by_cases b : 1 ∈ ns
    · rw [if_pos b, if_pos ((h1 a).mp b)]
    · rw [if_neg b, if_neg (fun q => b ((h1 a).mpr q))]
theorem hi_congr {ns ms : List Int} (h2 : 2 ∈ ns ↔ 2 ∈ ms) (h1 : 2 ∉ ns → (1 ∈ ns ↔ 1 ∈ ms)) : hi ns = hi ms := by
  unfold hi
  by_cases a : 2 ∈ ns
  · rw [if_pos a, if_pos (h2.mp a)]
  · rw [if_neg a, if_neg (fun q => a (h2.mpr q))]
    by_cases b : 1 ∈ ns
    · rw [if_pos b, if_pos ((h1 a).mp b)]
    · rw [if_neg b, if_neg (fun q => b ((h1 a).mpr q))]
theorem turn_mem {ns : List Int} {i : Int} : i ∈ ns.map (fun x => 2 - x) ↔ 2 - i ∈ ns := by
  rw [List.mem_map]
  constructor
  · rintro ⟨x, m, rfl⟩
    rw [show (2 : Int) - (2 - x) = x by omega]
    exact m
  · intro m
    exact ⟨_, m, by omega⟩
theorem hi_turn (ns : List Int) : 2 - hi (ns.map fun x => 2 - x) = lo ns := by
  unfold hi lo
  have e2 : (2 : Int) ∈ ns.map (fun x => 2 - x) ↔ (0 : Int) ∈ ns := turn_mem
  have e1 : (1 : Int) ∈ ns.map (fun x => 2 - x) ↔ (1 : Int) ∈ ns := turn_mem
  by_cases a : (0 : Int) ∈ ns
  · rw [if_pos a, if_pos (e2.mpr a)]; rfl
  · rw [if_neg a, if_neg (fun q => a (e2.mp q))]
    by_cases b : (1 : Int) ∈ ns
    · rw [if_pos b, if_pos (e1.mpr b)]; rfl
    · rw [if_neg b, if_neg (fun q => b (e1.mp q))]; rfl
theorem lo_turn (ns : List Int) : 2 - lo (ns.map fun x => 2 - x) = hi ns := by
  unfold hi lo
  have e0 : (0 : Int) ∈ ns.map (fun x => 2 - x) ↔ (2 : Int) ∈ ns := turn_mem
  have e1 : (1 : Int) ∈ ns.map (fun x => 2 - x) ↔ (1 : Int) ∈ ns := turn_mem
  by_cases a : (2 : Int) ∈ ns
  · rw [if_pos a, if_pos (e0.mpr a)]; rfl
  · rw [if_neg a, if_neg (fun q => a (e0.mp q))]
    by_cases b : (1 : Int) ∈ ns
    · rw [if_pos b, if_pos (e1.mpr b)]; rfl
    · rw [if_neg b, if_neg (fun q => b (e1.mp q))]; rfl
theorem lo_one {x : Int} (h : In3 x) : lo [x] = x := by rcases h with rfl | rfl | rfl <;> decide
theorem hi_one {x : Int} (h : In3 x) : hi [x] = x := by rcases h with rfl | rfl | rfl <;> decide
theorem lo_cases (ns : List Int) : (lo ns = 0 ∧ 0 ∈ ns) ∨ (lo ns = 1 ∧ 0 ∉ ns ∧ 1 ∈ ns) ∨ (lo ns = 2 ∧ 0 ∉ ns ∧ 1 ∉ ns) := by
  unfold lo
  by_cases a : (0 : Int) ∈ ns
  · rw [if_pos a]; exact .inl ⟨rfl, a⟩
  · rw [if_neg a]
    by_cases b : (1 : Int) ∈ ns
    · rw [if_pos b]; exact .inr (.inl ⟨rfl, a, b⟩)
    · rw [if_neg b]; exact .inr (.inr ⟨rfl, a, b⟩)
theorem hi_cases (ns : List Int) : (hi ns = 2 ∧ 2 ∈ ns) ∨ (hi ns = 1 ∧ 2 ∉ ns ∧ 1 ∈ ns) ∨ (hi ns = 0 ∧ 2 ∉ ns ∧ 1 ∉ ns) := by
  unfold hi
  by_cases a : (2 : Int) ∈ ns
  · rw [if_pos a]; exact .inl ⟨rfl, a⟩
  · rw [if_neg a]
    by_cases b : (1 : Int) ∈ ns
    · rw [if_pos b]; exact .inr (.inl ⟨rfl, a, b⟩)
    · rw [if_neg b]; exact .inr (.inr ⟨rfl, a, b⟩)
theorem lo_app (as bs : List Int) : lo (as ++ [lo bs]) = lo (as ++ bs) := by
  have h0 : (0 : Int) = lo bs ↔ 0 ∈ bs := by
    rcases lo_cases bs with ⟨e, m⟩ | ⟨e, m, _⟩ | ⟨e, m, _⟩ <;> rw [e] <;> simp [m]
  refine lo_congr ?_ fun n => ?_
  · rw [List.mem_append, List.mem_append, List.mem_singleton, h0]
  · rw [List.mem_append, List.mem_singleton, h0] at n
    rw [List.mem_append, List.mem_append, List.mem_singleton]
    rcases lo_cases bs with ⟨e, m⟩ | ⟨e, m, k⟩ | ⟨e, m, k⟩
    · exact absurd (.inr m) n
    · rw [e]; simp [k]
    · rw [e]; simp [k]
theorem hi_app (as bs : List Int) : hi (as ++ [hi bs]) = hi (as ++ bs) := by
  have h0 : (2 : Int) = hi bs ↔ 2 ∈ bs := by
    rcases hi_cases bs with ⟨e, m⟩ | ⟨e, m, _⟩ | ⟨e, m, _⟩ <;> rw [e] <;> simp [m]
  refine hi_congr ?_ fun n => ?_
  · rw [List.mem_append, List.mem_append, List.mem_singleton, h0]
  · rw [List.mem_append, List.mem_singleton, h0] at n
    rw [List.mem_append, List.mem_append, List.mem_singleton]
    rcases hi_cases bs with ⟨e, m⟩ | ⟨e, m, k⟩ | ⟨e, m, k⟩
    · exact absurd (.inr m) n
    · rw [e]; simp [k]
    · rw [e]; simp [k]
/-! ### filters to which all answer the same -/
def Ok1 (t : Vl) : Prop := ∀ x, t = some x → Abc x
def Same (d d' : Dt) : Prop := ∀ t, Ok1 t → lvs t d' = lvs t d
theorem Same.rfl' (d : Dt) : Same d d := fun _ _ => rfl
theorem Same.not {p q : Dt} (h : Same p q) : Same (notD p) (notD q) := fun t ht => by rw [lvs_not, lvs_not, h t ht]
theorem same_notnot (p : Dt) : Same (notD (notD p)) p := fun t _ => by rw [lvs_not, lvs_not]; omega
theorem same_nn (p : Dt) : Same p (notD (notD p)) := fun t _ => by rw [lvs_not, lvs_not]; omega
theorem bl_lo {a b : Bool} : lo [bLev a, bLev b] = bLev (a && b) := by cases a <;> cases b <;> decide
theorem bl_hi {a b : Bool} : hi [bLev a, bLev b] = bLev (a || b) := by cases a <;> cases b <;> decide
theorem bl_turn (a : Bool) : 2 - bLev a = bLev (!a) := by cases a <;> rfl
theorem same_tx {w : Str} (hw : w = "is" ∨ w = "below" ∨ w = "above" ∨ w = "begins") {y : Txt} {d : Dt} (h0 : lvs none d = 1) (h : ∀ x, Abc x → lvs (some x) d = bLev (fits w y x)) : Same (txD w y) d := fun t ht => by
  cases t with
  | none => rw [h0, show lvs none (txD w y) = 1 from lvs_tn (txw_tx hw).1 _]
  | some x => rw [h x (ht x rfl), lvs_tx hw]
theorem non_bel (y : Txt) : lvs none (txD "below" y) = 1 := lvs_tn (txw_tx (.inr (.inl rfl))).1 _
theorem bel_some (x y : Txt) : lvs (some x) (txD "below" y) = bLev (decide (x < y)) := lvs_tx (.inr (.inl rfl)) x y
theorem rng_none (y e : Txt) : lvs none (manyD "and" [notD (txD "below" y), txD "below" e]) = 1 := by
  rw [lvs_lo]
  show lo [lvs none (notD (txD "below" y)), lvs none (txD "below" e)] = 1
  rw [lvs_not, non_bel, non_bel]
  decide
theorem rng_some (x y e : Txt) : lvs (some x) (manyD "and" [notD (txD "below" y), txD "below" e]) = bLev (inP x (y, some e)) := by
  rw [lvs_lo]
  show lo [lvs (some x) (notD (txD "below" y)), lvs (some x) (txD "below" e)] = _
  rw [lvs_not, bel_some, bel_some, bl_turn, bl_lo, ← le_dec]
  rfl
theorem e_is1 (y : Txt) : Same (txD "is" y) (amgD [y]) := same_tx (.inl rfl) (lvs_tn txw_among _) fun x _ => by
  rw [lvs_amg]
  congr 1
  exact decide_eq_decide.mpr List.mem_singleton
theorem e_is2 (y : Txt) : Same (txD "is" y) (manyD "and" [notD (txD "below" y), txD "below" (y ++ [97])]) := same_tx (.inl rfl) (rng_none _ _) fun x ax => by
  rw [rng_some, in_is ax]
  rfl
theorem e_below (y : Txt) : Same (txD "below" y) (notD (manyD "or" [txD "is" y, txD "above" y])) := same_tx (.inr (.inl rfl)) (by
    rw [lvs_not, lvs_hi]
    show 2 - hi [lvs none (txD "is" y), lvs none (txD "above" y)] = 1
    rw [show lvs none (txD "is" y) = 1 from lvs_tn (txw_tx (.inl rfl)).1 _, show lvs none (txD "above" y) = 1 from lvs_tn (txw_tx (.inr (.inr (.inl rfl)))).1 _]
    decide) fun x _ => by
  rw [lvs_not, lvs_hi]
  show 2 - hi [lvs (some x) (txD "is" y), lvs (some x) (txD "above" y)] = _
  rw [lvs_tx (.inl rfl), lvs_tx (.inr (.inr (.inl rfl))), bl_hi, bl_turn]
  congr 1
  show (!(decide (x = y) || decide (y < x))) = decide (x < y)
  rw [Bool.eq_iff_iff, Bool.not_eq_true', Bool.or_eq_false_iff, decide_eq_false_iff_not, decide_eq_false_iff_not, decide_eq_true_iff]
  exact ⟨fun ⟨h1, h2⟩ => lt_of_le_ne' (le_of_nlt h2) h1, fun h => ⟨fun e => List.lt_irrefl _ (e ▸ h), fun g => List.lt_irrefl _ (List.lt_trans h g)⟩⟩
theorem e_above (y : Txt) : Same (txD "above" y) (notD (txD "below" (y ++ [97]))) := same_tx (.inr (.inr (.inl rfl))) (by rw [lvs_not, non_bel]; rfl) fun x ax => by
  rw [lvs_not, bel_some, bl_turn, ← le_dec]
  congr 1
  exact decide_eq_decide.mpr (snoc_le y x ax)
theorem e_beg0 {y : Txt} (ay : Abc y) (h : beyR y = none) : Same (txD "begins" y) (notD (txD "below" y)) := same_tx (.inr (.inr (.inr rfl))) (by rw [lvs_not, non_bel]; rfl) fun x ax => by
  rw [lvs_not, bel_some, bl_turn, ← le_dec]
  have := in_begins y x ay ax
  rw [h] at this
  show bLev _ = bLev (decide (x.take y.length = y))
  rw [← this]
  congr 1
  unfold inP
  simp
theorem e_beg1 {y e : Txt} (ay : Abc y) (h : beyR y = some e) : Same (txD "begins" y) (manyD "and" [notD (txD "below" y), txD "below" e]) := same_tx (.inr (.inr (.inr rfl))) (rng_none _ _) fun x ax => by
  rw [rng_some]
  have := in_begins y x ay ax
  rw [h] at this
  rw [this]
  rfl
theorem same_many {w : Str} (hw : w = "and" ∨ w = "or") {ds es : List Dt} (h : ∀ t, Ok1 t → es.map (lvs t) = ds.map (lvs t)) : Same (manyD w ds) (manyD w es) := fun t ht => by
  rcases hw with rfl | rfl
  · rw [lvs_lo, lvs_lo, h t ht]
  · rw [lvs_hi, lvs_hi, h t ht]
theorem p_rev {w : Str} (hw : w = "and" ∨ w = "or") (ds : List Dt) : Same (manyD w ds) (manyD w ds.reverse) := fun t _ => by
  rcases hw with rfl | rfl
  · rw [lvs_lo, lvs_lo]
    exact lo_congr (by rw [List.map_reverse, List.mem_reverse]) fun _ => by rw [List.map_reverse, List.mem_reverse]
  · rw [lvs_hi, lvs_hi]
    exact hi_congr (by rw [List.map_reverse, List.mem_reverse]) fun _ => by rw [List.map_reverse, List.mem_reverse]
def dual (w : Str) : Str := if w = "and" then "or" else "and"
theorem map_not (t : Vl) (ds : List Dt) : (ds.map notD).map (lvs t) = (ds.map (lvs t)).map fun x => 2 - x := by
  rw [List.map_map, List.map_map]
  exact List.map_congr_left fun d _ => lvs_not t d
theorem n_dual {w : Str} (hw : w = "and" ∨ w = "or") (ds : List Dt) : Same (notD (manyD w ds)) (manyD (dual w) (ds.map notD)) := fun t _ => by
  rcases hw with rfl | rfl
  · rw [show dual "and" = "or" from rfl, lvs_hi, lvs_not, lvs_lo, map_not, ← hi_turn]
    omega
  · rw [show dual "or" = "and" by decide +kernel, lvs_lo, lvs_not, lvs_hi, map_not, ← lo_turn]
    omega
theorem p_dual {w : Str} (hw : w = "and" ∨ w = "or") (ds : List Dt) : Same (manyD w ds) (notD (manyD (dual w) (ds.map notD))) := fun t ht => by
  rw [lvs_not, n_dual hw ds t ht, lvs_not]
  omega
theorem p_drop {w : Str} (hw : w = "and" ∨ w = "or") (ds : List Dt) (f : Dt → Bool) (h : ∀ d ∈ ds, f d = false → d = sayD (decide (w = "and"))) : Same (manyD w ds) (manyD w (ds.filter f)) := fun t _ => by
  have key : ∀ i : Int, i ≠ bLev (decide (w = "and")) → (i ∈ (ds.filter f).map (lvs t) ↔ i ∈ ds.map (lvs t)) := fun i ni => by
    rw [List.mem_map, List.mem_map]
    constructor
    · rintro ⟨d, m, e⟩
      exact ⟨d, (List.mem_filter.mp m).1, e⟩
    · rintro ⟨d, m, e⟩
      refine ⟨d, List.mem_filter.mpr ⟨m, ?_⟩, e⟩
      cases q : f d with
      | true => rfl
      | false =>
        rw [h d m q, lvs_say] at e
        exact absurd e.symm ni
  rcases hw with rfl | rfl
  · rw [lvs_lo, lvs_lo]
    exact lo_congr (key 0 (by decide +kernel)) fun _ => key 1 (by decide +kernel)
  · rw [lvs_hi, lvs_hi]
    exact hi_congr (key 2 (by decide +kernel)) fun _ => key 1 (by decide +kernel)
theorem p_one {w : Str} (hw : w = "and" ∨ w = "or") (d : Dt) : Same (manyD w [d]) d := fun t _ => by
  rcases hw with rfl | rfl
  · rw [lvs_lo]
    exact (lo_one (lvs_in t d)).symm
  · rw [lvs_hi]
    exact (hi_one (lvs_in t d)).symm
theorem p_nest {w : Str} (hw : w = "and" ∨ w = "or") (ds : List Dt) : Same (manyD w ds) (manyD w (ds.take 1 ++ [manyD w (ds.drop 1)])) := fun t _ => by
  rcases hw with rfl | rfl
  · rw [lvs_lo, lvs_lo, List.map_append]
    show lo (_ ++ [lvs t (manyD "and" (ds.drop 1))]) = _
    rw [lvs_lo, lo_app, ← List.map_append, List.take_append_drop]
  · rw [lvs_hi, lvs_hi, List.map_append]
    show hi (_ ++ [lvs t (manyD "or" (ds.drop 1))]) = _
    rw [lvs_hi, hi_app, ← List.map_append, List.take_append_drop]
theorem n_say (b : Bool) : Same (notD (sayD b)) (sayD (!b)) := fun t _ => by rw [lvs_not, lvs_say, lvs_say]; cases b <;> rfl
theorem n_two (p : Dt) : Same (notD p) (notD (manyD "or" [p, p])) := fun t _ => by
  rw [lvs_not, lvs_not, lvs_hi]
  show 2 - hi [lvs t p, lvs t p] = _
  rcases lvs_in t p with e | e | e <;> rw [e] <;> decide
theorem n_one (p : Dt) : Same (notD p) (notD (manyD "and" [p])) := fun t _ => by
  rw [lvs_not, lvs_not, lvs_lo]
  show 2 - lo [lvs t p] = _
  rw [lo_one (lvs_in t p)]
theorem s_amg {ys zs : List Txt} (h : ∀ x, x ∈ zs ↔ x ∈ ys) : Same (amgD ys) (amgD zs) := fun t _ => by
  cases t with
  | none => rw [show lvs none (amgD zs) = 1 from lvs_tn txw_among _, show lvs none (amgD ys) = 1 from lvs_tn txw_among _]
  | some x =>
    rw [lvs_amg, lvs_amg]
    congr 1
    exact decide_eq_decide.mpr (h x)
theorem s_true : Same (sayD true) (manyD "and" []) := fun t _ => by rw [lvs_say, lvs_lo]; rfl
theorem s_false : Same (sayD false) (manyD "or" []) := fun t _ => by rw [lvs_say, lvs_hi]; rfl
theorem s_or (d : Dt) : Same d (manyD "or" [d, sayD false]) := fun t _ => by
  rw [lvs_hi]
  show hi [lvs t d, lvs t (sayD false)] = _
  rw [lvs_say]
  rcases lvs_in t d with e | e | e <;> rw [e] <;> decide
theorem s_and (d : Dt) : Same d (manyD "and" [sayD true, d]) := fun t _ => by
  rw [lvs_lo]
  show lo [lvs t (sayD true), lvs t d] = _
  rw [lvs_say]
  rcases lvs_in t d with e | e | e <;> rw [e] <;> decide
theorem s_long (d : Dt) : Same d (manyD "or" [d, manyD "and" [d, nonD]]) := fun t _ => by
  rw [lvs_hi]
  show hi [lvs t d, lvs t (manyD "and" [d, nonD])] = _
  rw [lvs_lo]
  show hi [lvs t d, lo [lvs t d, lvs t nonD]] = _
  rw [lvs_non]
  rcases lvs_in t d with e | e | e <;> rw [e] <;> cases decide (t = none) <;> decide
abbrev s__law_past : Stmt := topS 46
abbrev N__law_past : List Str := ["word"]
theorem sc__law_past : FnScope ["word"] ["word"] (defScope s__law_past) := ⟨rfl, rfl, rfl, by decide +kernel, rfl, by decide +kernel, by decide +kernel⟩

theorem nil_tx {l : List Nat} : tx l = tx [] ↔ l = [] := ⟨fun h => tx_inj h, fun h => by rw [h]⟩
theorem bey_same {a b : List Nat} (h : cOff a = cOff b) : bey a = bey b := by
  unfold bey
  rw [h]
def spPastX : Sp := fun vs H Q _ => ∃ l : List Nat, vs = [Tx l] ∧ Lng l ∧ Q (oV (beyR l)) H
theorem cl__law_pastX {f : Addr} {fd : FuncData} (D : Df K mg "_law_past" s__law_past ["word"] f fd) (T : Nm mg) : Cl P w K mg base 1 "_law_past" s__law_past ["word"] spPastX := by
  refine D.cl sc__law_past (fun vs H Q E h => ?_) (fun cdv A outer s H vs Q E hr h => ?_)
  · obtain ⟨l, rfl, _⟩ := h
    rfl
  · obtain ⟨l, rfl, ⟨al, ll⟩, k⟩ := h
    rw [← bey_eq _ l (Nat.le_refl _) al] at k
    refine ⟨_, (pss_cons (ps_while PassesOwn.never (pt_cmpR op_eq (pe_slice sl_str (pv 0) (po_some (pe_un un_neg pe_int)) po_none) pe_str (by first | exact nomark _ | rfl)) (pss_one (ps_set (i := 0) sc__law_past.nd rfl (by first | exact Or.inl rfl | exact Or.inr rfl) (pe_slice sl_str (pv 0) po_none (po_some (pe_un un_neg pe_int))))))
      (pss_cons (ps_if (pt_cmpR op_eq (pv 0) pe_str (by first | exact nomark _ | rfl)) (pss_one (ps_ret pe_non)) pss_nil)
      (pss_one (ps_ret (pe_op op_add_str (pe_slice sl_str (pv 0) po_none (po_some (pe_un un_neg pe_int))) (pe_ifExp (pt_cmpR op_eq (pe_slice sl_str (pv 0) (po_some (pe_un un_neg pe_int)) po_none) pe_str (by first | exact nomark _ | rfl)) pe_str pe_str)))))), ?_⟩
    refine while_by (fun σ H1 => ∃ m : List Nat, σ = [some (Tx m)] ∧ Abc m ∧ m.length ≤ 1000 ∧ bey l = bey m ∧ H1 = H) (fun σ _ => match σ with | [some (.str x)] => x.length | _ => 0) ⟨l, rfl, al, ll, rfl, rfl⟩ ?_ ?_
    · rintro σ H1 ⟨m, rfl, am, lm, lmt, rfl⟩
      refine ⟨_, rfl, 1, rfl, -1, rfl, tx m, rfl, szt (by omega), ?_⟩
      rw [show cutS (tx m) (some (-1)) none = _ from tx_last m]
      refine ⟨rfl, _, rfl, ?_⟩
      rcases List.eq_nil_or_concat m with rfl | ⟨i, c, e⟩
      · refine ite2 (fun h => absurd h (by decide +kernel)) (fun h => ?_)
        refine ⟨_, rfl, rfl, _, rfl, ite2 (fun h1 => ?_) (fun h1 => absurd (decide_eq_true (congrArg V.str nil_lit.symm)) h1)⟩
        rw [lmt] at k
        exact k
      · rw [List.concat_eq_append] at e
        subst e
        have ed : (i ++ [c]).drop ((i ++ [c]).length - 1) = [c] := by rw [List.length_append, List.length_singleton, Nat.add_sub_cancel, List.drop_left]
        rw [ed]
        have li : i.length + 1 ≤ 1000 := by simpa using lm
        have ai : Abc i := fun x m => am x (List.mem_append_left _ m)
        refine ite2 (fun h => ?_) (fun h => ?_)
        · have hc : c = 99 := by
            have := tx_inj ((V.str.inj (of_decide_eq_true h)).trans c_lit9)
            simpa using this
          subst hc
          refine ⟨_, rfl, 1, rfl, -1, rfl, tx (i ++ [99]), rfl, szt (by simp; omega), ?_⟩
          rw [show cutS (tx (i ++ [99])) none (some (-1)) = _ from tx_init _, List.dropLast_concat]
          refine ⟨⟨i, rfl, ai, by omega, by rw [lmt]; exact bey_same (cOff_c i), rfl⟩, ?_⟩
          show (tx i).length < (tx (i ++ [99])).length
          rw [tx_len, tx_len, List.length_append, List.length_singleton]
          omega
        · have hc : c ≠ 99 := fun e => h (decide_eq_true (by rw [e]; exact congrArg V.str c_lit9.symm))
          rw [lmt, bey_some (cOff_id hc)] at k
          refine ⟨_, rfl, rfl, _, rfl, ite2 (fun h1 => ?_) (fun h1 => ?_)⟩
          · have := nil_tx.mp ((V.str.inj (of_decide_eq_true h1)).trans nil_lit)
            simp at this
          · refine ⟨_, rfl, 1, rfl, -1, rfl, tx (i ++ [c]), rfl, szt (by simp; omega), ?_⟩
            rw [show cutS (tx (i ++ [c])) none (some (-1)) = _ from tx_init _, List.dropLast_concat]
            refine ⟨_, rfl, 1, rfl, -1, rfl, tx (i ++ [c]), rfl, szt (by simp; omega), ?_⟩
            rw [show cutS (tx (i ++ [c])) (some (-1)) none = _ from tx_last _, ed]
            refine ⟨rfl, _, rfl, ?_⟩
            rcases am c (by simp) with rfl | rfl | rfl
            · refine ite2 (fun _ => ?_) (fun h => absurd (decide_eq_true (congrArg V.str a_lit.symm)) h)
              refine ⟨tx i, tx [98], rfl, congrArg V.str b_lit, (by rw [tx_len, tx_len]; exact sz (by simp; omega)), ?_⟩
              rw [tx_app]
              exact k
            · refine ite2 (fun h => absurd h (by decide +kernel)) (fun _ => ?_)
              refine ⟨tx i, tx [99], rfl, congrArg V.str c_lit9, (by rw [tx_len, tx_len]; exact sz (by simp; omega)), ?_⟩
              rw [tx_app]
              exact k
            · exact absurd rfl hc
    · rintro σ H Q Q' h ⟨v, e1, i, e2, j, e3, x, e4, z, s1, b, e5, q⟩
      exact ⟨v, e1, i, e2, j, e3, x, e4, z, s1, b, e5, h _ _ q⟩
abbrev s__law_level : Stmt := topS 50
abbrev N__law_level : List Str := ["sieve", "thing", "part", "word"]
theorem sc__law_level : FnScope ["sieve", "thing", "part", "word"] ["sieve", "thing"] (defScope s__law_level) := ⟨rfl, rfl, rfl, by decide +kernel, rfl, by decide +kernel, by decide +kernel⟩

theorem b2 (b : Bool) : (2 : Int) * (if b = true then 1 else 0) = bLev b := by cases b <;> rfl
theorem mul2 (b : Bool) : CMulW 2 (if b = true then 1 else 0) := by unfold CMulW; cases b <;> decide +kernel
theorem rpl_ints {K : PySem.W.Frag} {H : Hp} : ∀ {ls : List Int} {vs : List V}, RpL K H vs (ls.map Dt.int) → vs = ls.map V.int
  | [], _, .nil => rfl
  | i :: ls, _, .cons (.int _) r => by rw [rpl_ints r]; rfl
def spLev (K : PySem.W.Frag) (n : Nat) : Sp := fun vs H Q _ => ∃ (v : V) (d : Dt) (t : Vl), vs = [v, oV t] ∧ Rp K H v d ∧ Flt d ∧ d.dep < n ∧ OkV t ∧ ∀ H', Stp [] H H' → Q (.int (lev n t d)) H'
theorem level_step {f : Addr} {fd : FuncData} (D : Df K mg "_law_level" s__law_level ["sieve", "thing"] f fd) (T : Nm mg) {n m : Nat} (hm : 1 ≤ m) (c__law_level : Cl P w K mg base m "_law_level" s__law_level ["sieve", "thing"] (spLev K n)) : Cl P w K mg base (m + 1) "_law_level" s__law_level ["sieve", "thing"] (spLev K (n + 1)) := by
  refine D.cl sc__law_level (fun vs H Q E h => ?_) (fun cdv A outer s H vs Q E hr h => ?_)
  · obtain ⟨v, d, t, rfl, _⟩ := h
    rfl
  · obtain ⟨v, d, t, rfl, r, fl, dp, ok, k⟩ := h
    refine ⟨_, (pss_cons (ps_if (pt_cmpR op_eq (pe_ix ix_tup (pv 0) pe_int (fun _ _ => rfl)) pe_str (by first | exact nomark _ | rfl)) (pss_one (ps_ret (pe_op op_mulW pe_int (pe_callTy call_int1 (by rfl) T.n_int (by decide +kernel) (pa_cons (pe_cmpR op_isN (pv 1) pe_non (by first | exact nomark _ | rfl)) pa_nil))))) pss_nil)
      (pss_cons (ps_if (pt_cmpR op_eq (pe_ix ix_tup (pv 0) pe_int (fun _ _ => rfl)) pe_str (by first | exact nomark _ | rfl)) (pss_one (ps_ret (pe_op op_mulW pe_int (pe_callTy call_int1 (by rfl) T.n_int (by decide +kernel) (pa_cons (pe_ix ix_tup (pv 0) pe_int (fun _ _ => rfl)) pa_nil))))) pss_nil)
      (pss_cons (ps_if (pt_cmpR op_eq (pe_ix ix_tup (pv 0) pe_int (fun _ _ => rfl)) pe_str (by first | exact nomark _ | rfl)) (pss_one (ps_ret (pe_op op_sub pe_int (pe_cl c__law_level hr (by omega) (pa_cons (pe_ix ix_tup (pv 0) pe_int (fun _ _ => rfl)) (pa_cons (pv 1) pa_nil)))))) pss_nil)
      (pss_cons (ps_if (pt_cmpR op_eq (pe_ix ix_tup (pv 0) pe_int (fun _ _ => rfl)) pe_str (by first | exact nomark _ | rfl)) (pss_one (ps_ret (pe_callBK (Pg.cr_minDf (by rfl) hr.units) (by rfl) T.n_min (by decide +kernel) (pa_cons (pe_lc (own := [("part", 2)]) rfl sc__law_level.nd (pi_tup (pe_ix ix_tup (pv 0) pe_int (fun _ _ => rfl))) (blkOk_by (own := [("part", 2)]) (N := N__law_level) (sc := defScope s__law_level) (by decide +kernel)) (fun _ _ _ _ _ => (pg_name (i := 2) sc__law_level.nd rfl (by first | exact Or.inl rfl | exact Or.inr rfl))) (fun _ _ _ _ _ => pts_nil) (fun _ _ _ _ _ => (pe_callTy call_int1 (by rfl) T.n_int (by decide +kernel) (pa_cons (pe_cl c__law_level hr (by omega) (pa_cons (pv 2) (pa_cons (pv 1) pa_nil))) pa_nil)))) pa_nil) (pk_cons pe_int pk_nil)))) pss_nil)
      (pss_cons (ps_if (pt_cmpR op_eq (pe_ix ix_tup (pv 0) pe_int (fun _ _ => rfl)) pe_str (by first | exact nomark _ | rfl)) (pss_one (ps_ret (pe_callBK (Pg.cr_maxDf (by rfl) hr.units) (by rfl) T.n_max (by decide +kernel) (pa_cons (pe_lc (own := [("part", 2)]) rfl sc__law_level.nd (pi_tup (pe_ix ix_tup (pv 0) pe_int (fun _ _ => rfl))) (blkOk_by (own := [("part", 2)]) (N := N__law_level) (sc := defScope s__law_level) (by decide +kernel)) (fun _ _ _ _ _ => (pg_name (i := 2) sc__law_level.nd rfl (by first | exact Or.inl rfl | exact Or.inr rfl))) (fun _ _ _ _ _ => pts_nil) (fun _ _ _ _ _ => (pe_callTy call_int1 (by rfl) T.n_int (by decide +kernel) (pa_cons (pe_cl c__law_level hr (by omega) (pa_cons (pv 2) (pa_cons (pv 1) pa_nil))) pa_nil)))) pa_nil) (pk_cons pe_int pk_nil)))) pss_nil)
      (pss_cons (ps_if (pt_cmpR op_isN (pv 1) pe_non (by first | exact nomark _ | rfl)) (pss_one (ps_ret pe_int)) pss_nil)
      (pss_cons (ps_if (pt_cmpR op_eq (pe_ix ix_tup (pv 0) pe_int (fun _ _ => rfl)) pe_str (by first | exact nomark _ | rfl)) (pss_one (ps_ret (pe_op op_mulW pe_int (pe_callTy call_int1 (by rfl) T.n_int (by decide +kernel) (pa_cons (pe_cmpR (Pv.op_neNil hr.units) (pe_lc (own := [("word", 3)]) rfl sc__law_level.nd (pi_tup (pe_ix ix_tup (pv 0) pe_int (fun _ _ => rfl))) (blkOk_by (own := [("word", 3)]) (N := N__law_level) (sc := defScope s__law_level) (by decide +kernel)) (fun _ _ _ _ _ => (pg_name (i := 3) sc__law_level.nd rfl (by first | exact Or.inl rfl | exact Or.inr rfl))) (fun _ _ _ _ _ => (pts_one (pt_cmpR op_eq (pv 3) (pv 1) (by first | exact nomark _ | rfl)))) (fun _ _ _ _ _ => (pv 3))) (pe_lst pa_nil) (by first | exact nomark _ | rfl)) pa_nil))))) pss_nil)
      (pss_cons (ps_if (pt_cmpR op_eq (pe_ix ix_tup (pv 0) pe_int (fun _ _ => rfl)) pe_str (by first | exact nomark _ | rfl)) (pss_one (ps_ret (pe_op op_mulW pe_int (pe_callTy call_int1 (by rfl) T.n_int (by decide +kernel) (pa_cons (pe_cmpR op_eq (pe_slice sl_str (pv 1) po_none (po_some (pe_callB call_len_str (by rfl) T.n_len (by decide +kernel) (pa_cons (pe_ix ix_tup (pv 0) pe_int (fun _ _ => rfl)) pa_nil)))) (pe_ix ix_tup (pv 0) pe_int (fun _ _ => rfl)) (by first | exact nomark _ | rfl)) pa_nil))))) pss_nil)
      (pss_cons (ps_if (pt_cmpR op_eq (pe_ix ix_tup (pv 0) pe_int (fun _ _ => rfl)) pe_str (by first | exact nomark _ | rfl)) (pss_one (ps_ret (pe_op op_mulW pe_int (pe_callTy call_int1 (by rfl) T.n_int (by decide +kernel) (pa_cons (pe_cmpR op_eq (pv 1) (pe_ix ix_tup (pv 0) pe_int (fun _ _ => rfl)) (by first | exact nomark _ | rfl)) pa_nil))))) pss_nil)
      (pss_one (ps_ret (pe_op op_mulW pe_int (pe_callTy call_int1 (by rfl) T.n_int (by decide +kernel) (pa_cons (pe_ifExp (pt_cmpR op_eq (pe_ix ix_tup (pv 0) pe_int (fun _ _ => rfl)) pe_str (by first | exact nomark _ | rfl)) (pe_cmpR op_lt_str (pv 1) (pe_ix ix_tup (pv 0) pe_int (fun _ _ => rfl)) (by first | exact nomark _ | rfl)) (pe_cmpR op_gt_str (pv 1) (pe_ix ix_tup (pv 0) pe_int (fun _ _ => rfl)) (by first | exact nomark _ | rfl))) pa_nil)))))))))))))), ?_⟩
    have nf : ∀ {a b : Str}, a ≠ b → ¬ decide (V.str a = V.str b) = true := fun n h => n (V.str.inj (of_decide_eq_true h))
    have tf : ∀ {a : Str}, decide (V.str a = V.str a) = true := decide_eq_true rfl
    cases fl with
    | none =>
      obtain ⟨a, rfl, hs⟩ := rp1 r
      refine ⟨_, rfl, a, _, 0, _, rfl, rfl, hs, at0, rfl, _, rfl, ite2 (fun _ => ?_) (fun h => absurd tf h)⟩
      have e : decide (oV t = V.non) = decide (t = none) := by
        cases t with
        | none => rfl
        | some l => exact (decide_eq_false fun h => nomatch h).trans (decide_eq_false fun h => nomatch h).symm
      refine ⟨_, rfl, rfl, .inr ⟨_, rfl, 2, _, rfl, rfl, mul2 _, ?_⟩⟩
      have k1 := k H (Stp.refl _ _)
      rw [show lev (n + 1) t (.tup [.str ("none" : Str).cps.toList]) = bLev (decide (t = none)) from rfl, ← b2, ← e] at k1
      exact k1
    | say b =>
      obtain ⟨a, u, rfl, hs, ru⟩ := rp2 r
      cases ru
      rw [lev_two, lev_say, ← b2] at k
      refine ⟨_, rfl, a, _, 0, _, rfl, rfl, hs, at0, rfl, _, rfl, ite2 (fun h => absurd h (nf (by decide +kernel))) (fun _ => ?_)⟩
      refine ⟨_, rfl, a, _, 0, _, rfl, rfl, hs, at0, rfl, _, rfl, ite2 (fun _ => ?_) (fun h => absurd tf h)⟩
      exact ⟨_, rfl, a, _, 1, _, rfl, rfl, hs, at1, .inr ⟨b, rfl, 2, _, rfl, rfl, mul2 b, k H (Stp.refl _ _)⟩⟩
    | not f =>
      obtain ⟨a, u, rfl, hs, ru⟩ := rp2 r
      rw [lev_two, lev_not] at k
      refine ⟨_, rfl, a, _, 0, _, rfl, rfl, hs, at0, rfl, _, rfl, ite2 (fun h => absurd h (nf (by decide +kernel))) (fun _ => ?_)⟩
      refine ⟨_, rfl, a, _, 0, _, rfl, rfl, hs, at0, rfl, _, rfl, ite2 (fun h => absurd h (nf (by decide +kernel))) (fun _ => ?_)⟩
      refine ⟨_, rfl, a, _, 0, _, rfl, rfl, hs, at0, rfl, _, rfl, ite2 (fun _ => ?_) (fun h => absurd tf h)⟩
      exact ⟨_, rfl, a, _, 1, u, rfl, rfl, hs, at1, _, rfl, u, _, t, rfl, ru, f, dep_two dp, ok, fun H1 S1 => ⟨2, _, rfl, rfl, k H1 S1⟩⟩
    | @many wd ds hw m =>
      obtain ⟨a, u, rfl, hs, ru⟩ := rp2 r
      rw [lev_two] at k
      cases ru with
      | tup hs2 hl rl =>
        rename_i b2' us
        have fin : ∀ {ws : List V} {H3 : Hp} {L : Addr}, H3 L = some (.lst ws) → RpL K H3 ws (ds.map fun d => Dt.int (lev n t d)) → SqL K H3 L ((ds.map (lev n t)).map V.int) := fun {ws H3 L} h3 r3 => by
          have e1 : (ds.map fun d => Dt.int (lev n t d)) = (ds.map (lev n t)).map Dt.int := by rw [List.map_map]; rfl
          rw [e1] at r3
          rw [← rpl_ints r3]
          exact SqL.of h3
        rcases hw with rfl | rfl
        · rw [lev_and] at k
          refine ⟨_, rfl, a, _, 0, _, rfl, rfl, hs, at0, rfl, _, rfl, ite2 (fun h => absurd h (nf (by decide +kernel))) (fun _ => ?_)⟩
          refine ⟨_, rfl, a, _, 0, _, rfl, rfl, hs, at0, rfl, _, rfl, ite2 (fun h => absurd h (nf (by decide +kernel))) (fun _ => ?_)⟩
          refine ⟨_, rfl, a, _, 0, _, rfl, rfl, hs, at0, rfl, _, rfl, ite2 (fun h => absurd h (nf (by decide +kernel))) (fun _ => ?_)⟩
          refine ⟨_, rfl, a, _, 0, _, rfl, rfl, hs, at0, rfl, _, rfl, ite2 (fun _ => ?_) (fun h => absurd tf h)⟩
          refine ⟨_, rfl, a, _, 1, _, rfl, rfl, hs, at1, b2', rfl, ⟨_, hs2⟩, fun L nL => ?_⟩
          refine lc_mapT9 (ds := ds.map fun d => Dt.int (lev n t d)) nL hs2 (by rw [List.length_map, rl.len]) (by omega) (fun j x dd H3 hx hd S3 Q2 q => ?_) fun ws H3 S3 h3 r3 => ?_
          · obtain ⟨e', he, re⟩ := rl.get hx
            rw [List.getElem?_map, he] at hd
            cases hd
            exact ⟨rfl, _, rfl, _, rfl, x, e', t, rfl, re.stp S3 Lsts.nil, m e' (List.mem_of_getElem? he), dep_in dp (List.mem_of_getElem? he), ok, fun H4 S4 => .inl ⟨_, rfl, q _ _ S4 (.int _)⟩⟩
          · exact ⟨L, _, 2, rfl, rfl, fin h3 r3, k H3 S3⟩
        · rw [lev_or] at k
          refine ⟨_, rfl, a, _, 0, _, rfl, rfl, hs, at0, rfl, _, rfl, ite2 (fun h => absurd h (nf (by decide +kernel))) (fun _ => ?_)⟩
          refine ⟨_, rfl, a, _, 0, _, rfl, rfl, hs, at0, rfl, _, rfl, ite2 (fun h => absurd h (nf (by decide +kernel))) (fun _ => ?_)⟩
          refine ⟨_, rfl, a, _, 0, _, rfl, rfl, hs, at0, rfl, _, rfl, ite2 (fun h => absurd h (nf (by decide +kernel))) (fun _ => ?_)⟩
          refine ⟨_, rfl, a, _, 0, _, rfl, rfl, hs, at0, rfl, _, rfl, ite2 (fun h => absurd h (nf (by decide +kernel))) (fun _ => ?_)⟩
          refine ⟨_, rfl, a, _, 0, _, rfl, rfl, hs, at0, rfl, _, rfl, ite2 (fun _ => ?_) (fun h => absurd tf h)⟩
          refine ⟨_, rfl, a, _, 1, _, rfl, rfl, hs, at1, b2', rfl, ⟨_, hs2⟩, fun L nL => ?_⟩
          refine lc_mapT9 (ds := ds.map fun d => Dt.int (lev n t d)) nL hs2 (by rw [List.length_map, rl.len]) (by omega) (fun j x dd H3 hx hd S3 Q2 q => ?_) fun ws H3 S3 h3 r3 => ?_
          · obtain ⟨e', he, re⟩ := rl.get hx
            rw [List.getElem?_map, he] at hd
            cases hd
            exact ⟨rfl, _, rfl, _, rfl, x, e', t, rfl, re.stp S3 Lsts.nil, m e' (List.mem_of_getElem? he), dep_in dp (List.mem_of_getElem? he), ok, fun H4 S4 => .inl ⟨_, rfl, q _ _ S4 (.int _)⟩⟩
          · exact ⟨L, _, 0, rfl, rfl, fin h3 r3, k H3 S3⟩
    | @among ds m =>
      have tw := txw_among
      obtain ⟨a, u, rfl, hs, ru⟩ := rp2 r
      rw [lev_two] at k
      refine ⟨_, rfl, a, _, 0, _, rfl, rfl, hs, at0, rfl, _, rfl, ite2 (fun h => absurd h (nf tw.1)) (fun _ => ?_)⟩
      refine ⟨_, rfl, a, _, 0, _, rfl, rfl, hs, at0, rfl, _, rfl, ite2 (fun h => absurd h (nf tw.2.1)) (fun _ => ?_)⟩
      refine ⟨_, rfl, a, _, 0, _, rfl, rfl, hs, at0, rfl, _, rfl, ite2 (fun h => absurd h (nf tw.2.2.1)) (fun _ => ?_)⟩
      refine ⟨_, rfl, a, _, 0, _, rfl, rfl, hs, at0, rfl, _, rfl, ite2 (fun h => absurd h (nf tw.2.2.2.1)) (fun _ => ?_)⟩
      refine ⟨_, rfl, a, _, 0, _, rfl, rfl, hs, at0, rfl, _, rfl, ite2 (fun h => absurd h (nf tw.2.2.2.2)) (fun _ => ?_)⟩
      cases t with
      | none =>
        rw [lev_txn _ tw] at k
        exact ⟨_, rfl, rfl, _, rfl, ite2 (fun _ => k H (Stp.refl _ _)) (fun h => absurd rfl h)⟩
      | some x =>
        rw [lev_among, ← b2] at k
        refine ⟨_, rfl, rfl, _, rfl, ite2 (fun h => absurd h (by simp [oV])) (fun _ => ?_)⟩
        cases ru with
        | tup hs2 hl rl =>
          rename_i b2' us
          obtain ⟨ys, rfl⟩ := txs_of m
          have eu := rpl_strs rl
          rw [eu] at hs2
          refine ⟨_, rfl, a, _, 0, _, rfl, rfl, hs, at0, rfl, _, rfl, ite2 (fun _ => ?_) (fun h => absurd tf h)⟩
          refine ⟨_, rfl, a, _, 1, _, rfl, rfl, hs, at1, b2', rfl, ⟨_, hs2⟩, fun L nL => ?_⟩
          refine lc_tup (a := b2') (xs := ys.map Tx) (fun i H3 => H3 L = some (.lst (((ys.take i).filter fun y => decide (y = x)).map Tx)) ∧ Stp [] H H3) ⟨upd_same, Stp.new nL _⟩ (fun i H3 _ ⟨_, S3⟩ => sqt_stp S3 Lsts.nil hs2) ?_ ?_
          · rintro i y H3 hy ⟨hL, S3⟩
            rw [List.getElem?_map] at hy
            cases e : ys[i]? with
            | none => rw [e] at hy; cases hy
            | some z =>
              rw [e] at hy
              cases hy
              have e2 : (ys.take (i + 1)).filter (fun y => decide (y = x)) = ((ys.take i).filter fun y => decide (y = x)) ++ (if z = x then [z] else []) := by
                rw [List.take_add_one, e, List.filter_append]
                show _ ++ List.filter _ [z] = _
                rw [List.filter_cons, List.filter_nil]
                by_cases g : z = x
                · rw [if_pos (decide_eq_true g), if_pos g]
                · rw [if_neg (by rw [decide_eq_false g]; decide), if_neg g]
              have len : ((ys.take i).filter fun y => decide (y = x)).length < 100000 := by
                have h1 := List.length_filter_le (fun y => decide (y = x)) (ys.take i)
                have h2 := (List.getElem?_eq_some_iff.mp e).1
                rw [List.length_take] at h1
                rw [eu, List.length_map] at hl
                omega
              refine ⟨rfl, _, rfl, _, rfl, rfl, _, rfl, ?_⟩
              rw [show decide (Tx z = oV (some x)) = decide (z = x) from eq_tx z x]
              refine ite2 (fun h => ?_) (fun h => ?_)
              · have g : z = x := of_decide_eq_true h
                refine ⟨_, rfl, _, hL, ?_, ?_, S3.mut nL⟩
                · rw [List.length_map]
                  exact Nat.lt_of_lt_of_le len (by decide)
                · rw [upd_same, e2, if_pos g, List.map_append]
                  rfl
              · have g : ¬ z = x := fun g => h (decide_eq_true g)
                rw [e2, if_neg g, List.append_nil]
                exact ⟨hL, S3⟩
          · rintro H3 ⟨hL, S3⟩
            rw [List.length_map, List.take_length] at hL
            have ea : ((ys.map Dt.str).any (eqD x)) = decide (((ys.filter fun y => decide (y = x)).map Tx) ≠ []) := by
              rw [List.any_map, Bool.eq_iff_iff, List.any_eq_true, decide_eq_true_iff]
              refine ⟨fun ⟨y, hy, e⟩ => ?_, fun h => ?_⟩
              · have e : x = y := of_decide_eq_true e
                subst e
                intro q
                have := List.map_eq_nil_iff.mp q
                have m2 : x ∈ ys.filter fun y => decide (y = x) := List.mem_filter.mpr ⟨hy, decide_eq_true rfl⟩
                rw [this] at m2
                cases m2
              · obtain ⟨z, hz⟩ := List.exists_mem_of_ne_nil _ h
                obtain ⟨y, hy, _⟩ := List.mem_map.mp hz
                obtain ⟨h1, h2⟩ := List.mem_filter.mp hy
                exact ⟨y, h1, decide_eq_true (of_decide_eq_true h2).symm⟩
            have ee : ∀ l : List V, decide (l ≠ []) = !l.isEmpty := fun l => by cases l <;> simp
            rw [ea, ee] at k
            refine ⟨Nat.zero_le _, fun q nq => ?_⟩
            have S4 : Stp [] H3 (upd H3 q (.lst [])) := Stp.new nq _
            refine ⟨L, q, _, rfl, rfl, ne_of_none hL nq, SqL.of (S4.kp _ _ (fun m => nomatch m) hL), SqL.of upd_same, ?_⟩
            exact .inr ⟨_, rfl, 2, _, rfl, rfl, mul2 _, k _ (S3.trans S4)⟩
    | tx hw ha =>
      obtain ⟨tw, na⟩ := txw_tx hw
      obtain ⟨a, u, rfl, hs, ru⟩ := rp2 r
      cases ru
      rename_i l ly
      rw [lev_two] at k
      refine ⟨_, rfl, a, _, 0, _, rfl, rfl, hs, at0, rfl, _, rfl, ite2 (fun h => absurd h (nf tw.1)) (fun _ => ?_)⟩
      refine ⟨_, rfl, a, _, 0, _, rfl, rfl, hs, at0, rfl, _, rfl, ite2 (fun h => absurd h (nf tw.2.1)) (fun _ => ?_)⟩
      refine ⟨_, rfl, a, _, 0, _, rfl, rfl, hs, at0, rfl, _, rfl, ite2 (fun h => absurd h (nf tw.2.2.1)) (fun _ => ?_)⟩
      refine ⟨_, rfl, a, _, 0, _, rfl, rfl, hs, at0, rfl, _, rfl, ite2 (fun h => absurd h (nf tw.2.2.2.1)) (fun _ => ?_)⟩
      refine ⟨_, rfl, a, _, 0, _, rfl, rfl, hs, at0, rfl, _, rfl, ite2 (fun h => absurd h (nf tw.2.2.2.2)) (fun _ => ?_)⟩
      cases t with
      | none =>
        rw [lev_txn _ tw] at k
        exact ⟨_, rfl, rfl, _, rfl, ite2 (fun _ => k H (Stp.refl _ _)) (fun h => absurd rfl h)⟩
      | some x =>
        rw [lev_txs _ tw na, ← b2] at k
        refine ⟨_, rfl, rfl, _, rfl, ite2 (fun h => absurd h (by simp [oV])) (fun _ => ?_)⟩
        refine ⟨_, rfl, a, _, 0, _, rfl, rfl, hs, at0, rfl, _, rfl, ite2 (fun h => absurd h (nf na)) (fun _ => ?_)⟩
        rcases hw with rfl | rfl | rfl | rfl
        · refine ⟨_, rfl, a, _, 0, _, rfl, rfl, hs, at0, rfl, _, rfl, ite2 (fun h => absurd h (nf (by decide +kernel))) (fun _ => ?_)⟩
          refine ⟨_, rfl, a, _, 0, _, rfl, rfl, hs, at0, rfl, _, rfl, ite2 (fun _ => ?_) (fun h => absurd tf h)⟩
          refine ⟨_, rfl, _, rfl, a, _, 1, _, rfl, rfl, hs, at1, rfl, .inr ⟨_, rfl, 2, _, rfl, rfl, mul2 _, ?_⟩⟩
          rw [show fits "is" l x = decide (Tx x = Tx l) from (eq_tx x l).symm] at k
          exact k H (Stp.refl _ _)
        · refine ⟨_, rfl, a, _, 0, _, rfl, rfl, hs, at0, rfl, _, rfl, ite2 (fun h => absurd h (nf (by decide +kernel))) (fun _ => ?_)⟩
          refine ⟨_, rfl, a, _, 0, _, rfl, rfl, hs, at0, rfl, _, rfl, ite2 (fun h => absurd h (nf (by decide +kernel))) (fun _ => ?_)⟩
          refine ⟨_, rfl, a, _, 0, _, rfl, rfl, hs, at0, rfl, _, rfl, ite2 (fun _ => ?_) (fun h => absurd tf h)⟩
          refine ⟨_, rfl, _, rfl, a, _, 1, _, rfl, rfl, hs, at1, tx x, tx l, rfl, rfl, .inr ⟨_, rfl, 2, _, rfl, rfl, mul2 _, ?_⟩⟩
          exact k H (Stp.refl _ _)
        · refine ⟨_, rfl, a, _, 0, _, rfl, rfl, hs, at0, rfl, _, rfl, ite2 (fun h => absurd h (nf (by decide +kernel))) (fun _ => ?_)⟩
          refine ⟨_, rfl, a, _, 0, _, rfl, rfl, hs, at0, rfl, _, rfl, ite2 (fun h => absurd h (nf (by decide +kernel))) (fun _ => ?_)⟩
          refine ⟨_, rfl, a, _, 0, _, rfl, rfl, hs, at0, rfl, _, rfl, ite2 (fun h => absurd h (nf (by decide +kernel))) (fun _ => ?_)⟩
          refine ⟨_, rfl, _, rfl, a, _, 1, _, rfl, rfl, hs, at1, tx x, tx l, rfl, rfl, .inr ⟨_, rfl, 2, _, rfl, rfl, mul2 _, ?_⟩⟩
          exact k H (Stp.refl _ _)
        · refine ⟨_, rfl, a, _, 0, _, rfl, rfl, hs, at0, rfl, _, rfl, ite2 (fun _ => ?_) (fun h => absurd tf h)⟩
          refine ⟨_, rfl, _, rfl, a, _, 1, _, rfl, rfl, hs, at1, tx l, rfl, szt ly, _, rfl, tx x, rfl, szt (by have := (ok x rfl).2; omega), ?_⟩
          rw [tx_len, tx_upto]
          refine ⟨_, rfl, a, _, 1, _, rfl, rfl, hs, at1, rfl, .inr ⟨_, rfl, 2, _, rfl, rfl, mul2 _, ?_⟩⟩
          rw [show fits "begins" l x = decide (V.str (tx (x.take l.length)) = Tx l) from (eq_tx _ l).symm] at k
          exact k H (Stp.refl _ _)
theorem level_all {f : Addr} {fd : FuncData} (D : Df K mg "_law_level" s__law_level ["sieve", "thing"] f fd) (T : Nm mg) : ∀ n : Nat, Cl P w K mg base (n + 1) "_law_level" s__law_level ["sieve", "thing"] (spLev K n)
  | 0 => cl_never D (fun vs H Q E ⟨v, d, _, _, _, _, hd, _⟩ => Nat.not_lt_zero _ hd) 1
  | n + 1 => level_step D T (by omega) (level_all D T n)
abbrev s__law_words : Stmt := topS 51
abbrev N__law_words : List Str := ["sieve", "found", "part"]
theorem sc__law_words : FnScope ["sieve", "found", "part"] ["sieve"] (defScope s__law_words) := ⟨rfl, rfl, rfl, by decide +kernel, rfl, by decide +kernel, by decide +kernel⟩

/-! ### the texts that a filter names -/
def strOf : Dt → Option Txt
  | .str l => some l
  | _ => none
def wdsW (f : Dt → List Txt) (w : Str) (p : Dt) : List Txt :=
  if w = "and" ∨ w = "or" then (match p with | .tup ds => (ds.map f).flatten | _ => [])
  else if w = "not" then f p
  else if w = "among" then (match p with | .tup ds => ds.filterMap strOf | _ => [])
  else match p with | .str l => [l] | _ => []
def wds : Nat → Dt → List Txt
  | 0, _ => []
  | n + 1, .tup [.str w, p] => wdsW (wds n) (tx w) p
  | _ + 1, _ => []
theorem wds_two (n : Nat) (w : Str) (p : Dt) : wds (n + 1) (.tup [.str w.cps.toList, p]) = wdsW (wds n) w p := by
  show wdsW (wds n) (tx w.cps.toList) p = _
  rw [lit_tx]
theorem wdsW_many (f : Dt → List Txt) {w : Str} (hw : w = "and" ∨ w = "or") (ds : List Dt) : wdsW f w (.tup ds) = (ds.map f).flatten := if_pos hw
theorem wdsW_not (f : Dt → List Txt) (p : Dt) : wdsW f "not" p = f p := by unfold wdsW; rw [if_neg (by decide +kernel), if_pos rfl]
theorem wdsW_among (f : Dt → List Txt) (ys : List Txt) : wdsW f "among" (.tup (ys.map Dt.str)) = ys := by
  unfold wdsW
  rw [if_neg (by decide +kernel), if_neg (by decide +kernel), if_pos rfl]
  show (ys.map Dt.str).filterMap strOf = ys
  rw [List.filterMap_map]
  show ys.filterMap some = ys
  exact List.filterMap_some
theorem wdsW_say (f : Dt → List Txt) (b : Bool) : wdsW f "say" (.bl b) = [] := by
  unfold wdsW
  rw [if_neg (by decide +kernel), if_neg (by decide +kernel), if_neg (by decide +kernel)]
theorem wdsW_tx (f : Dt → List Txt) {w : Str} (hw : w = "is" ∨ w = "below" ∨ w = "above" ∨ w = "begins") (l : Txt) : wdsW f w (.str l) = [l] := by
  unfold wdsW
  rcases hw with rfl | rfl | rfl | rfl <;> rw [if_neg (by decide +kernel), if_neg (by decide +kernel), if_neg (by decide +kernel)]
theorem wds_none (n : Nat) : wds (n + 1) (.tup [.str ("none" : Str).cps.toList]) = [] := rfl
theorem flat_len {f : Dt → List Txt} : ∀ {ds : List Dt}, (∀ d ∈ ds, (f d).length ≤ wtD d) → ((ds.map f).flatten).length ≤ wtL ds
  | [], _ => Nat.zero_le _
  | d :: ds, h => by
    have a := h d List.mem_cons_self
    have b := flat_len (f := f) (ds := ds) fun e m => h e (List.mem_cons_of_mem _ m)
    rw [List.map_cons, List.flatten_cons, List.length_append]
    show _ ≤ wtD d + wtL ds
    omega
theorem wds_len : ∀ (n : Nat) {d : Dt}, Flt d → (wds n d).length ≤ wtD d
  | 0, _, _ => Nat.zero_le _
  | n + 1, _, .none => Nat.zero_le _
  | n + 1, _, .say b => by rw [wds_two, wdsW_say]; exact Nat.zero_le _
  | n + 1, _, .not (d := d) f => by
    have := wds_len n f
    rw [wds_two, wdsW_not]
    show _ ≤ 1 + (wtD d + 0) + 2
    omega
  | n + 1, _, .among (ds := ds) m => by
    obtain ⟨ys, rfl⟩ := txs_of m
    rw [wds_two, wdsW_among]
    show _ ≤ 1 + (wtL (ys.map Dt.str) + 2 + 0) + 2
    rw [wt_strs]
    omega
  | n + 1, _, .many (ds := ds) hw m => by
    have := flat_len (f := wds n) (ds := ds) fun d md => wds_len n (m d md)
    rw [wds_two, wdsW_many _ hw]
    show _ ≤ 1 + (wtL ds + 2 + 0) + 2
    omega
  | n + 1, _, .tx (l := l) hw ha => by
    rw [wds_two, wdsW_tx _ hw]
    show 1 ≤ 1 + (1 + 0) + 2
    omega
/-- its texts are texts, short ones -/
theorem wds_ok {m : Nat} : ∀ (n : Nat) {d : Dt}, Flt d → tshD m d → ∀ x ∈ wds n d, Abc x ∧ x.length ≤ m
  | 0, _, _, _, x, mx => nomatch mx
  | n + 1, _, .none, _, x, mx => nomatch mx
  | n + 1, _, .say b, _, x, mx => by rw [wds_two, wdsW_say] at mx; cases mx
  | n + 1, _, .not (d := d) f, t, x, mx => by
    rw [wds_two, wdsW_not] at mx
    exact wds_ok n f t.2.1 x mx
  | n + 1, _, .among (ds := ds) h, t, x, mx => by
    obtain ⟨ys, rfl⟩ := txs_of h
    rw [wds_two, wdsW_among] at mx
    have mm : Dt.str x ∈ ys.map Dt.str := List.mem_map.mpr ⟨x, mx, rfl⟩
    obtain ⟨l, e, al⟩ := h _ mm
    cases e
    exact ⟨al, tsh_mem (ds := ys.map Dt.str) t.2.1 mm⟩
  | n + 1, _, .many (ds := ds) hw h, t, x, mx => by
    rw [wds_two, wdsW_many _ hw] at mx
    obtain ⟨l, ml, mx⟩ := List.mem_flatten.mp mx
    obtain ⟨d, md, rfl⟩ := List.mem_map.mp ml
    exact wds_ok n (h d md) (tsh_mem (ds := ds) t.2.1 md) x mx
  | n + 1, _, .tx (l := l) hw ha, t, x, mx => by
    rw [wds_two, wdsW_tx _ hw] at mx
    rw [List.mem_singleton.mp mx]
    exact ⟨ha, t.2.1⟩
def spWords (K : PySem.W.Frag) (n : Nat) : Sp := fun vs H Q _ => ∃ (v : V) (d : Dt), vs = [v] ∧ Rp K H v d ∧ Flt d ∧ d.dep < n ∧ wtD d ≤ 2000 ∧ ∀ L H', Stp [] H H' → H' L = some (.lst ((wds n d).map Tx)) → Q (.ref L) H'
theorem words_step {f : Addr} {fd : FuncData} (D : Df K mg "_law_words" s__law_words ["sieve"] f fd) (T : Nm mg) {n m : Nat} (c__law_words : Cl P w K mg base m "_law_words" s__law_words ["sieve"] (spWords K n)) : Cl P w K mg base (m + 1) "_law_words" s__law_words ["sieve"] (spWords K (n + 1)) := by
  refine D.cl sc__law_words (fun vs H Q E h => ?_) (fun cdv A outer s H vs Q E hr h => ?_)
  · obtain ⟨v, d, rfl, _⟩ := h
    rfl
  · obtain ⟨v, d, rfl, r, fl, dp, wt, k⟩ := h
    refine ⟨_, (pss_cons (ps_if (pt_cmpR op_in_seq (pe_ix ix_tup (pv 0) pe_int (fun _ _ => rfl)) (pe_tup (pa_cons pe_str (pa_cons pe_str pa_nil))) (by first | exact nomark _ | rfl)) (pss_cons (ps_set (i := 1) sc__law_words.nd rfl (by first | exact Or.inl rfl | exact Or.inr rfl) (pe_lst pa_nil))
      (pss_cons (ps_for PassesOwn.never rfl (pi_tup (pe_ix ix_tup (pv 0) pe_int (fun _ _ => rfl))) (pg_name (i := 2) sc__law_words.nd rfl (by first | exact Or.inl rfl | exact Or.inr rfl)) (pss_one (ps_set (i := 1) sc__law_words.nd rfl (by first | exact Or.inl rfl | exact Or.inr rfl) (pe_op op_cat (pv 1) (pe_cl c__law_words hr (by omega) (pa_cons (pv 2) pa_nil))))))
      (pss_one (ps_ret (pv 1))))) pss_nil)
      (pss_cons (ps_if (pt_cmpR op_eq (pe_ix ix_tup (pv 0) pe_int (fun _ _ => rfl)) pe_str (by first | exact nomark _ | rfl)) (pss_one (ps_ret (pe_cl c__law_words hr (by omega) (pa_cons (pe_ix ix_tup (pv 0) pe_int (fun _ _ => rfl)) pa_nil)))) pss_nil)
      (pss_cons (ps_if (pt_cmpR op_eq (pe_ix ix_tup (pv 0) pe_int (fun _ _ => rfl)) pe_str (by first | exact nomark _ | rfl)) (pss_one (ps_ret (pe_callTy call_list_of (by rfl) T.n_list (by decide +kernel) (pa_cons (pe_ix ix_tup (pv 0) pe_int (fun _ _ => rfl)) pa_nil)))) pss_nil)
      (pss_one (ps_ret (pe_ifExp (pt_cmpR op_in_seq (pe_ix ix_tup (pv 0) pe_int (fun _ _ => rfl)) (pe_tup (pa_cons pe_str (pa_cons pe_str pa_nil))) (by first | exact nomark _ | rfl)) (pe_lst pa_nil) (pe_lst (pa_cons (pe_ix ix_tup (pv 0) pe_int (fun _ _ => rfl)) pa_nil)))))))), ?_⟩
    have nn : ∀ {x : Addr}, x ∉ ([] : List Addr) := fun m => nomatch m
    have nf : ∀ {a b : Str}, a ≠ b → ¬ decide (V.str a = V.str b) = true := fun n h => n (V.str.inj (of_decide_eq_true h))
    have tf : ∀ {a : Str}, decide (V.str a = V.str a) = true := decide_eq_true rfl
    have len2 : (2 : Nat) ≤ sizeLine := by decide
    have inS2 : ∀ {x a b : Str}, inV (.str x) [.str a, .str b] = decide (x ∈ [a, b]) := fun {x a b} => inV_str x [a, b]
    cases fl with
    | none =>
      obtain ⟨a, rfl, hs⟩ := rp1 r
      refine ⟨_, rfl, a, _, 0, _, rfl, rfl, hs, at0, len2, fun t nt => ?_⟩
      refine ⟨t, _, rfl, .inr (SqT.of upd_same), rfl, rfl, _, rfl, ite2 (fun h => absurd h (by rw [inS2]; decide +kernel)) (fun _ => ?_)⟩
      have S1 : Stp [] H (upd H t (.tup [.str "and", .str "or"])) := Stp.new nt _
      have hs1 := sqt_stp S1 Lsts.nil hs
      generalize upd H t (.tup [.str "and", .str "or"]) = H1 at *
      refine ⟨_, rfl, a, _, 0, _, rfl, rfl, hs1, at0, rfl, _, rfl, ite2 (fun h => absurd h (nf (by decide +kernel))) (fun _ => ?_)⟩
      refine ⟨_, rfl, a, _, 0, _, rfl, rfl, hs1, at0, rfl, _, rfl, ite2 (fun h => absurd h (nf (by decide +kernel))) (fun _ => ?_)⟩
      refine ⟨_, rfl, a, _, 0, _, rfl, rfl, hs1, at0, len2, fun t2 nt2 => ?_⟩
      refine ⟨t2, _, rfl, .inr (SqT.of upd_same), rfl, rfl, _, rfl, ite2 (fun _ => ?_) (fun h => absurd (show _ = true by rw [inS2]; decide +kernel) h)⟩
      exact ⟨Nat.zero_le _, fun L nL => k L _ ((S1.new' nt2).new' nL) upd_same⟩
    | say b =>
      obtain ⟨a, u, rfl, hs, ru⟩ := rp2 r
      refine ⟨_, rfl, a, _, 0, _, rfl, rfl, hs, at0, len2, fun t nt => ?_⟩
      refine ⟨t, _, rfl, .inr (SqT.of upd_same), rfl, rfl, _, rfl, ite2 (fun h => absurd h (by rw [inS2]; decide +kernel)) (fun _ => ?_)⟩
      have S1 : Stp [] H (upd H t (.tup [.str "and", .str "or"])) := Stp.new nt _
      have hs1 := sqt_stp S1 Lsts.nil hs
      generalize upd H t (.tup [.str "and", .str "or"]) = H1 at *
      refine ⟨_, rfl, a, _, 0, _, rfl, rfl, hs1, at0, rfl, _, rfl, ite2 (fun h => absurd h (nf (by decide +kernel))) (fun _ => ?_)⟩
      refine ⟨_, rfl, a, _, 0, _, rfl, rfl, hs1, at0, rfl, _, rfl, ite2 (fun h => absurd h (nf (by decide +kernel))) (fun _ => ?_)⟩
      refine ⟨_, rfl, a, _, 0, _, rfl, rfl, hs1, at0, len2, fun t2 nt2 => ?_⟩
      refine ⟨t2, _, rfl, .inr (SqT.of upd_same), rfl, rfl, _, rfl, ite2 (fun _ => ?_) (fun h => absurd (show _ = true by rw [inS2]; decide +kernel) h)⟩
      refine ⟨Nat.zero_le _, fun L nL => k L _ ((S1.new' nt2).new' nL) ?_⟩
      rw [upd_same, wds_two, wdsW_say]
      rfl
    | @not d1 f1 =>
      obtain ⟨a, u, rfl, hs, ru⟩ := rp2 r
      have w1 : wtD (.tup [.str ("not" : Str).cps.toList, d1]) = 1 + (wtD d1 + 0) + 2 := rfl
      refine ⟨_, rfl, a, _, 0, _, rfl, rfl, hs, at0, len2, fun t nt => ?_⟩
      refine ⟨t, _, rfl, .inr (SqT.of upd_same), rfl, rfl, _, rfl, ite2 (fun h => absurd h (by rw [inS2]; decide +kernel)) (fun _ => ?_)⟩
      have S1 : Stp [] H (upd H t (.tup [.str "and", .str "or"])) := Stp.new nt _
      have hs1 := sqt_stp S1 Lsts.nil hs
      have ru1 := ru.stp S1 Lsts.nil
      generalize upd H t (.tup [.str "and", .str "or"]) = H1 at *
      refine ⟨_, rfl, a, _, 0, _, rfl, rfl, hs1, at0, rfl, _, rfl, ite2 (fun _ => ?_) (fun h => absurd tf h)⟩
      refine ⟨_, rfl, a, _, 1, u, rfl, rfl, hs1, at1, u, d1, rfl, ru1, f1, dep_two dp, by omega, fun L H2 S2 hL => k L H2 (S1.trans S2) ?_⟩
      rw [hL, wds_two, wdsW_not]
    | @among ds m =>
      obtain ⟨a, u, rfl, hs, ru⟩ := rp2 r
      refine ⟨_, rfl, a, _, 0, _, rfl, rfl, hs, at0, len2, fun t nt => ?_⟩
      refine ⟨t, _, rfl, .inr (SqT.of upd_same), rfl, rfl, _, rfl, ite2 (fun h => absurd h (by rw [inS2]; decide +kernel)) (fun _ => ?_)⟩
      have S1 : Stp [] H (upd H t (.tup [.str "and", .str "or"])) := Stp.new nt _
      have hs1 := sqt_stp S1 Lsts.nil hs
      have ru1 := ru.stp S1 Lsts.nil
      generalize upd H t (.tup [.str "and", .str "or"]) = H1 at *
      refine ⟨_, rfl, a, _, 0, _, rfl, rfl, hs1, at0, rfl, _, rfl, ite2 (fun h => absurd h (nf (by decide +kernel))) (fun _ => ?_)⟩
      refine ⟨_, rfl, a, _, 0, _, rfl, rfl, hs1, at0, rfl, _, rfl, ite2 (fun _ => ?_) (fun h => absurd tf h)⟩
      cases ru1 with
      | tup hs2 hl rl =>
        obtain ⟨ys, rfl⟩ := txs_of m
        have eu := rpl_strs rl
        subst eu
        refine ⟨_, rfl, a, _, 1, _, rfl, rfl, hs1, at1, _, _, rfl, .inr hs2, fun L nL => k L _ (S1.new' nL) ?_⟩
        rw [upd_same, wds_two, wdsW_among]
    | @many wd ds hw m =>
      obtain ⟨a, u, rfl, hs, ru⟩ := rp2 r
      have w1 : wtD (.tup [.str wd.cps.toList, .tup ds]) = 1 + (wtL ds + 2) + 2 := rfl
      refine ⟨_, rfl, a, _, 0, _, rfl, rfl, hs, at0, len2, fun t nt => ?_⟩
      refine ⟨t, _, rfl, .inr (SqT.of upd_same), rfl, rfl, _, rfl, ite2 (fun _ => ?_) (fun h => absurd (show _ = true by rw [inS2]; rcases hw with rfl | rfl <;> decide +kernel) h)⟩
      have S1 : Stp [] H (upd H t (.tup [.str "and", .str "or"])) := Stp.new nt _
      have hs1 := sqt_stp S1 Lsts.nil hs
      have ru1 := ru.stp S1 Lsts.nil
      generalize upd H t (.tup [.str "and", .str "or"]) = H1 at *
      refine ⟨Nat.zero_le _, fun L nL => ?_⟩
      have S2 : Stp [] H1 (upd H1 L (.lst [])) := Stp.new nL _
      have hL : (upd H1 L (.lst [])) L = some (.lst []) := upd_same
      have hs2 := sqt_stp S2 Lsts.nil hs1
      have ru2 := ru1.stp S2 Lsts.nil
      generalize upd H1 L (.lst []) = H2 at *
      cases ru2 with
      | tup hb hl rl =>
        rename_i b us
        have lu : us.length = ds.length := rl.len
        have flen : ∀ i, (((ds.take i).map (wds n)).flatten).length ≤ wtL ds := fun i => by
          have h := flat_len (f := wds n) (ds := ds) fun d md => wds_len n (m d md)
          have e : (ds.map (wds n)).flatten = ((ds.take i).map (wds n)).flatten ++ ((ds.drop i).map (wds n)).flatten := by
            rw [← List.flatten_append, ← List.map_append, List.take_append_drop]
          rw [e, List.length_append] at h
          omega
        refine ⟨_, rfl, a, _, 1, _, rfl, rfl, hs2, at1, b, rfl, ⟨_, hb⟩, for_tup (a := b) (xs := us) (fun i σ H' => ∃ (L : Addr) (x2 : Option V), σ = [some (.ref a), some (.ref L), x2] ∧ H' L = some (.lst (((ds.take i).map (wds n)).flatten.map Tx)) ∧ Stp [] H2 H') ⟨L, _, rfl, hL, Stp.refl _ _⟩ (fun i σ H' _ ⟨_, _, _, _, S⟩ => sqt_stp S Lsts.nil hb) ?_ ?_⟩
        · rintro i x σ H3 hi ⟨L3, x2, rfl, hL3, S3⟩
          obtain ⟨e', he, re⟩ := rl.get hi
          have mem := List.mem_of_getElem? he
          have := wt_mem mem
          refine ⟨_, rfl, _, rfl, x, e', rfl, re.stp S3 Lsts.nil, m e' mem, dep_in dp mem, by omega, fun L4 H4 S4 hL4 => ?_⟩
          have hL34 := S4.kp _ _ nn hL3
          have e1 : ((ds.take (i + 1)).map (wds n)).flatten = ((ds.take i).map (wds n)).flatten ++ wds n e' := by
            rw [List.take_add_one, he, List.map_append, List.flatten_append]
            simp
          have fl1 := flen (i + 1)
          rw [e1, List.length_append] at fl1
          refine ⟨L3, L4, _, _, rfl, rfl, hL34, hL4, ?_, fun L5 n5 => ?_⟩
          · rw [List.length_map, List.length_map]
            exact Nat.le_trans (show _ ≤ 2000 by omega) (by decide)
          · refine ⟨L5, _, rfl, ?_, (S3.trans S4).new' n5⟩
            rw [upd_same, e1, List.map_append]
        · rintro σ H3 ⟨L3, x2, rfl, hL3, S3⟩
          rw [lu, List.take_length] at hL3
          refine ⟨_, rfl, k L3 H3 ((S1.trans S2).trans S3) ?_⟩
          rw [hL3, wds_two, wdsW_many _ hw]
    | @tx wd l hw ha =>
      obtain ⟨a, u, rfl, hs, ru⟩ := rp2 r
      cases ru
      refine ⟨_, rfl, a, _, 0, _, rfl, rfl, hs, at0, len2, fun t nt => ?_⟩
      refine ⟨t, _, rfl, .inr (SqT.of upd_same), rfl, rfl, _, rfl, ite2 (fun h => absurd h (by rw [inS2]; rcases hw with rfl | rfl | rfl | rfl <;> decide +kernel)) (fun _ => ?_)⟩
      have S1 : Stp [] H (upd H t (.tup [.str "and", .str "or"])) := Stp.new nt _
      have hs1 := sqt_stp S1 Lsts.nil hs
      generalize upd H t (.tup [.str "and", .str "or"]) = H1 at *
      refine ⟨_, rfl, a, _, 0, _, rfl, rfl, hs1, at0, rfl, _, rfl, ite2 (fun h => absurd h (nf (by rcases hw with rfl | rfl | rfl | rfl <;> decide +kernel))) (fun _ => ?_)⟩
      refine ⟨_, rfl, a, _, 0, _, rfl, rfl, hs1, at0, rfl, _, rfl, ite2 (fun h => absurd h (nf (by rcases hw with rfl | rfl | rfl | rfl <;> decide +kernel))) (fun _ => ?_)⟩
      refine ⟨_, rfl, a, _, 0, _, rfl, rfl, hs1, at0, len2, fun t2 nt2 => ?_⟩
      have S2 : Stp [] H1 (upd H1 t2 (.tup [.str "none", .str "say"])) := Stp.new nt2 _
      refine ⟨t2, _, rfl, .inr (SqT.of upd_same), rfl, rfl, _, rfl, ite2 (fun h => absurd h (by rw [inS2]; rcases hw with rfl | rfl | rfl | rfl <;> decide +kernel)) (fun _ => ?_)⟩
      refine ⟨_, rfl, a, _, 1, _, rfl, rfl, sqt_stp S2 Lsts.nil hs1, at1, (by show 1 ≤ sizeLine; decide), fun L nL => k L _ ((S1.trans S2).new' nL) ?_⟩
      rw [upd_same, wds_two, wdsW_tx _ hw]
      rfl
theorem words_all {f : Addr} {fd : FuncData} (D : Df K mg "_law_words" s__law_words ["sieve"] f fd) (T : Nm mg) : ∀ n : Nat, Cl P w K mg base (n + 1) "_law_words" s__law_words ["sieve"] (spWords K n)
  | 0 => cl_never D (fun vs H Q E ⟨v, d, _, _, _, hd, _⟩ => Nat.not_lt_zero _ hd) 1
  | n + 1 => words_step D T (words_all D T n)
def PtsOf (ps : List Pr) (zs : List Txt) : Prop := ∀ z, z ∈ zs ↔ z = [] ∨ (∃ p ∈ ps, p.1 = z) ∨ ∃ p ∈ ps, p.2 = some z
theorem cell_at : ∀ (zs : List Txt) (w : Txt), (∃ z, zs.head? = some z ∧ z ≤ w) → ∃ j z, zs[j]? = some z ∧ z ≤ w ∧ ∀ z', zs[j + 1]? = some z' → w < z'
  | [], _, ⟨z, e, _⟩ => by cases e
  | [z], w, ⟨z0, e, l⟩ => by
    cases e
    exact ⟨0, z, rfl, l, fun z' q => by cases q⟩
  | z :: z2 :: zs, w, ⟨z0, e, l⟩ => by
    cases e
    by_cases c : w < z2
    · exact ⟨0, z, rfl, l, fun z' q => by cases q; exact c⟩
    · obtain ⟨j, x, h1, h2, h3⟩ := cell_at (z2 :: zs) w ⟨z2, rfl, le_of_nlt c⟩
      exact ⟨j + 1, x, h1, h2, h3⟩
theorem pts_cell {ps : List Pr} {zs : List Txt} (pw : zs.Pairwise (· < ·)) (po : PtsOf ps zs) (w : Txt) : ∃ j z, zs[j]? = some z ∧ z ≤ w ∧ ∀ z', zs[j + 1]? = some z' → w < z' := by
  refine cell_at zs w ?_
  have m : ([] : Txt) ∈ zs := (po []).mpr (.inl rfl)
  cases zs with
  | nil => cases m
  | cons z zs =>
    refine ⟨z, rfl, ?_⟩
    rcases List.mem_cons.mp m with rfl | m
    · exact nil_le _
    · exact absurd ((List.pairwise_cons.mp pw).1 [] m) (by intro h; cases h)
theorem pts_gap {zs : List Txt} (pw : zs.Pairwise (· < ·)) {j : Nat} {z w x : Txt} (hz : zs[j]? = some z) (nx : ∀ z', zs[j + 1]? = some z' → w < z') (m : x ∈ zs) (l : x ≤ w) : x ≤ z := by
  obtain ⟨i, hi, e⟩ := List.mem_iff_getElem.mp m
  have e' : zs[i]? = some x := by rw [List.getElem?_eq_getElem hi, e]
  rcases Nat.lt_trichotomy i j with c | c | c
  · exact lt_le' (asc pw c e' hz)
  · subst c
    rw [hz] at e'
    cases e'
    exact le_self _
  · have hl : j + 1 < zs.length := by omega
    have a := nx _ (List.getElem?_eq_getElem hl)
    rcases Nat.lt_or_eq_of_le (Nat.succ_le_of_lt c) with q | q
    · exact absurd (lt_le (List.lt_trans a (asc pw q (List.getElem?_eq_getElem hl) e')) l) (List.lt_irrefl _)
    · have q : j + 1 = i := q
      subst q
      rw [List.getElem?_eq_getElem hl] at e'
      cases e'
      exact absurd (lt_le a l) (List.lt_irrefl _)
theorem in_cell {ps : List Pr} {zs : List Txt} (pw : zs.Pairwise (· < ·)) (sub : ∀ z, (∃ p ∈ ps, p.1 = z) ∨ (∃ p ∈ ps, p.2 = some z) → z ∈ zs) {j : Nat} {z w : Txt} (hz : zs[j]? = some z) (l : z ≤ w) (nx : ∀ z', zs[j + 1]? = some z' → w < z') : inS ps w = inS ps z := by
  have one : ∀ p ∈ ps, inP w p = inP z p := fun p m => by
    rw [Bool.eq_iff_iff, inP_iff, inP_iff]
    constructor
    · exact fun h => ⟨pts_gap pw hz nx (sub _ (.inl ⟨p, m, rfl⟩)) h.1, fun e he => le_lt l (h.2 e he)⟩
    · refine fun h => ⟨List.le_trans h.1 l, fun e he => ?_⟩
      by_cases c : w < e
      · exact c
      · exact absurd (lt_le (h.2 e he) (pts_gap pw hz nx (sub _ (.inr ⟨p, m, he⟩)) (le_of_nlt c))) (List.lt_irrefl _)
  unfold inS
  rw [Bool.eq_iff_iff, List.any_eq_true, List.any_eq_true]
  constructor
  · rintro ⟨p, m, h⟩
    exact ⟨p, m, by rw [← one p m]; exact h⟩
  · rintro ⟨p, m, h⟩
    exact ⟨p, m, by rw [one p m]; exact h⟩
theorem due_mem {ps ds : List Pr} {zs : List Txt} {bs : List Bool} {f : Bool → Bool} (pw : zs.Pairwise (· < ·)) (po : PtsOf ps zs) (hb : ∀ (j : Nat) z, zs[j]? = some z → bs[j]? = some (f (inS ps z))) (me : Mem zs bs zs.length ds) (w : Txt) : inS ds w = f (inS ps w) := by
  obtain ⟨j, z, h1, h2, h3⟩ := pts_cell pw po w
  rw [me.yes j z _ w (List.getElem?_eq_some_iff.mp h1).1 h1 (hb j z h1) h2 h3, in_cell pw (fun x h => (po x).mpr (.inr h)) h1 h2 h3]
abbrev s__law_corners : Stmt := topS 52
abbrev N__law_corners : List Str := ["words", "far", "word"]
theorem sc__law_corners : FnScope ["words", "far", "word"] ["words"] (defScope s__law_corners) := ⟨rfl, rfl, rfl, by decide +kernel, rfl, by decide +kernel, by decide +kernel⟩

/-! ### the corners -/
def PtsX (ws zs : List Txt) : Prop := ∀ z, z ∈ zs ↔ z = [] ∨ z ∈ ws ∨ (∃ x ∈ ws, x ++ [97] = z) ∨ ∃ x ∈ ws, beyR x = some z
theorem rpl_os {K : PySem.W.Frag} {H : Hp} : ∀ {os : List (Option Txt)} {vs : List V}, RpL K H vs (os.map oD) → vs = os.map oV
  | [], _, .nil => rfl
  | none :: os, _, .cons h r => by
    cases h
    rw [rpl_os r]
    rfl
  | some l :: os, _, .cons h r => by
    cases h
    rw [rpl_os r]
    rfl
theorem ol_rp {K : PySem.W.Frag} {H : Hp} {o : Option Txt} (h : ∀ e, o = some e → e.length ≤ 100000) : Rp K H (oV o) (oD o) := by
  cases o with
  | none => exact .non
  | some l => exact .str l (h l rfl)
def spCor : Sp := fun vs H Q _ => ∃ (a : Addr) (ws : List Txt), vs = [.ref a] ∧ H a = some (.lst (ws.map Tx)) ∧ (∀ x ∈ ws, Abc x ∧ x.length ≤ 30) ∧ ws.length ≤ 600 ∧
  ∀ (zs : List Txt) b H', Stp [] H H' → H' b = some (.lst (zs.map Tx)) → zs.Pairwise (· < ·) → (∀ z ∈ zs, Short z) → zs.length ≤ 3 * ws.length + 1 → PtsX ws zs → Q (.ref b) H'
theorem cl__law_corners {f : Addr} {fd : FuncData} (D : Df K mg "_law_corners" s__law_corners ["words"] f fd) (T : Nm mg) (c__law_past : Cl P w K mg base 1 "_law_past" s__law_past ["word"] spPastX) : Cl P w K mg base 2 "_law_corners" s__law_corners ["words"] spCor := by
  refine D.cl sc__law_corners (fun vs H Q E h => ?_) (fun cdv A outer s H vs Q E hr h => ?_)
  · obtain ⟨a, ws, rfl, _⟩ := h
    rfl
  · obtain ⟨a, ws, rfl, ha, ok, few, k⟩ := h
    refine ⟨_, (pss_cons (ps_setLc (i := 1) (own := [("word", 2)]) rfl sc__law_corners.nd rfl rfl (sw_true rfl rfl rfl (by decide +kernel)) (pi_list (pv 0)) (blkOk_by (own := [("word", 2)]) (N := N__law_corners) (sc := defScope s__law_corners) (by decide +kernel)) (fun _ _ _ _ _ => (pg_name (i := 2) sc__law_corners.nd rfl (by first | exact Or.inl rfl | exact Or.inr rfl))) (fun _ _ _ _ _ => pts_nil) (fun _ _ _ _ _ => (pe_cl c__law_past hr (by omega) (pa_cons (pv 2) pa_nil))))
      (pss_one (ps_ret (pe_sortset hr.hd (by rfl) T.n_sorted (by rfl) T.n_set (pe_op op_cat (pe_op op_cat (pe_op op_cat (pe_lst (pa_cons pe_str pa_nil)) (pv 0)) (pe_lc (own := [("word", 2)]) rfl sc__law_corners.nd (pi_list (pv 0)) (blkOk_by (own := [("word", 2)]) (N := N__law_corners) (sc := defScope s__law_corners) (by decide +kernel)) (fun _ _ _ _ _ => (pg_name (i := 2) sc__law_corners.nd rfl (by first | exact Or.inl rfl | exact Or.inr rfl))) (fun _ _ _ _ _ => pts_nil) (fun _ _ _ _ _ => (pe_op op_add_str (pv 2) pe_str)))) (pe_lc (own := [("word", 2)]) rfl sc__law_corners.nd (pi_list (pv 1)) (blkOk_by (own := [("word", 2)]) (N := N__law_corners) (sc := defScope s__law_corners) (by decide +kernel)) (fun _ _ _ _ _ => (pg_name (i := 2) sc__law_corners.nd rfl (by first | exact Or.inl rfl | exact Or.inr rfl))) (fun _ _ _ _ _ => (pts_one (pt_cmpR op_notN (pv 2) pe_non (by first | exact nomark _ | rfl)))) (fun _ _ _ _ _ => (pv 2)))))))), ?_⟩
    have nn : ∀ {x : Addr}, x ∉ ([] : List Addr) := fun m => nomatch m
    have len1 : (1 : Nat) ≤ sizeLine := by decide
    have bok : ∀ x ∈ ws, ∀ e, beyR x = some e → Abc e ∧ e.length ≤ 30 := fun x m e h => by
      obtain ⟨h1, h2, _⟩ := beyR_ok (ok x m).1 h
      exact ⟨h1, Nat.le_trans h2 (ok x m).2⟩
    -- far
    refine ⟨_, rfl, a, rfl, ⟨_, SqL.of ha⟩, fun F nF => ?_⟩
    refine lc_mapL (K := K) (ds := (ws.map beyR).map oD) nF (SqL.of ha) (by simp) (by rw [List.length_map]; omega) (fun j x d H1 hx hd S1 Q2 q => ?_) fun vs1 H1 S1 h1 r1 => ?_
    · rw [List.getElem?_map] at hx
      rw [List.getElem?_map, List.getElem?_map] at hd
      cases e : ws[j]? with
      | none => rw [e] at hx; cases hx
      | some y =>
        rw [e] at hx hd
        cases hx
        cases hd
        have mem := List.mem_of_getElem? e
        have oky := ok y mem
        exact ⟨rfl, _, rfl, y, rfl, ⟨oky.1, by have := oky.2; omega⟩, q _ _ (Stp.refl _ _) (ol_rp fun e' he => by have := (bok y mem e' he).2; omega)⟩
    obtain rfl := rpl_os r1
    have ha1 := S1.kp _ _ nn ha
    -- [""] + words
    refine ⟨len1, fun L1 n1 => ?_⟩
    have S2 : Stp [] H1 (upd H1 L1 (.lst [.str ""])) := Stp.new n1 _
    have hL1 : (upd H1 L1 (.lst [.str ""])) L1 = some (.lst [.str ""]) := upd_same
    have ha2 := S2.kp _ _ nn ha1
    have hF2 := S2.kp _ _ nn h1
    generalize upd H1 L1 (.lst [.str ""]) = H2 at *
    refine ⟨_, rfl, L1, a, _, _, rfl, rfl, hL1, ha2, ?_, fun L2 n2 => ?_⟩
    · rw [List.length_map]
      exact Nat.le_trans (show [V.str ""].length + ws.length ≤ 5000 by simp; omega) (by decide)
    have S3 : Stp [] H2 (upd H2 L2 (.lst ([.str ""] ++ ws.map Tx))) := Stp.new n2 _
    have hL2 : (upd H2 L2 (.lst ([.str ""] ++ ws.map Tx))) L2 = some (.lst ([.str ""] ++ ws.map Tx)) := upd_same
    have ha3 := S3.kp _ _ nn ha2
    have hF3 := S3.kp _ _ nn hF2
    generalize upd H2 L2 (.lst ([.str ""] ++ ws.map Tx)) = H3 at *
    refine ⟨_, rfl, a, rfl, ⟨_, SqL.of ha3⟩, fun L3 n3 => ?_⟩
    refine lc_mapL (K := K) (ds := (ws.map fun x => x ++ [97]).map Dt.str) n3 (SqL.of ha3) (by simp) (by rw [List.length_map]; omega) (fun j x d H4 hx hd S4 Q2 q => ?_) fun vs4 H4 S4 h4 r4 => ?_
    · rw [List.getElem?_map] at hx
      rw [List.getElem?_map, List.getElem?_map] at hd
      cases e : ws[j]? with
      | none => rw [e] at hx; cases hx
      | some y =>
        rw [e] at hx hd
        cases hx
        cases hd
        have oky := ok y (List.mem_of_getElem? e)
        refine ⟨rfl, _, rfl, tx y, tx [97], rfl, congrArg V.str a_lit, (by rw [tx_len, tx_len]; exact sz (by have := oky.2; simp; omega)), ?_⟩
        rw [tx_app]
        exact q _ _ (Stp.refl _ _) (.str _ (by have := oky.2; simp; omega))
    obtain rfl := rpl_strs r4
    have hL24 := S4.kp _ _ nn hL2
    have hF4 := S4.kp _ _ nn hF3
    refine ⟨L2, L3, _, _, rfl, rfl, hL24, h4, ?_, fun L4 n4 => ?_⟩
    · rw [List.length_append, List.length_map, List.length_map, List.length_map]
      exact Nat.le_trans (show [V.str ""].length + ws.length + ws.length ≤ 5000 by simp; omega) (by decide)
    have S5 : Stp [] H4 (upd H4 L4 (.lst (([.str ""] ++ ws.map Tx) ++ (ws.map fun x => x ++ [97]).map Tx))) := Stp.new n4 _
    have hL4 : (upd H4 L4 (.lst (([.str ""] ++ ws.map Tx) ++ (ws.map fun x => x ++ [97]).map Tx))) L4 = some (.lst (([.str ""] ++ ws.map Tx) ++ (ws.map fun x => x ++ [97]).map Tx)) := upd_same
    have hF5 := S5.kp _ _ nn hF4
    generalize upd H4 L4 (.lst (([.str ""] ++ ws.map Tx) ++ (ws.map fun x => x ++ [97]).map Tx)) = H5 at *
    refine ⟨_, rfl, F, rfl, ⟨_, SqL.of hF5⟩, fun L5 n5 => ?_⟩
    have S05 : Stp [] H H5 := (((S1.trans S2).trans S3).trans S4).trans S5
    refine lc_list (a := F) (xs := (ws.map beyR).map oV) (fun i H6 => H6 L5 = some (.lst ((((ws.take i).filterMap beyR)).map Tx)) ∧ Stp [] H5 H6) ⟨upd_same, Stp.new n5 _⟩ (fun i H6 _ ⟨_, S⟩ => SqL.of (S.kp _ _ nn hF5)) ?_ ?_
    · rintro i x H6 hi ⟨hL5, S6⟩
      rw [List.getElem?_map, List.getElem?_map] at hi
      cases e : ws[i]? with
      | none => rw [e] at hi; cases hi
      | some y =>
        rw [e] at hi
        cases hi
        have tk : (ws.take (i + 1)).filterMap beyR = (ws.take i).filterMap beyR ++ (beyR y).toList := by
          rw [List.take_add_one, e, List.filterMap_append]
          cases q : beyR y with
          | none => simp [q]
          | some z => simp [q]
        cases q : beyR y with
        | none =>
          refine ⟨rfl, _, rfl, rfl, _, rfl, ite2 (fun h => absurd h (by simp [oV])) (fun _ => ⟨?_, S6⟩)⟩
          rw [tk, q, Option.toList_none, List.append_nil]
          exact hL5
        | some z =>
          refine ⟨rfl, _, rfl, rfl, _, rfl, ite2 (fun _ => ?_) (fun h => absurd (show _ = true from rfl) h)⟩
          refine ⟨_, rfl, _, hL5, ?_, ?_, S6.mut n5⟩
          · rw [List.length_map]
            have := List.length_filterMap_le beyR (ws.take i)
            rw [List.length_take] at this
            exact Nat.lt_of_le_of_lt (show _ ≤ 1000 by omega) (by decide)
          · rw [upd_same, tk, q, List.map_append]
            rfl
    · rintro H6 ⟨hL5, S6⟩
      rw [List.length_map, List.length_map, List.take_length] at hL5
      have hL46 := S6.kp _ _ nn hL4
      have fl := List.length_filterMap_le beyR ws
      refine ⟨L4, L5, _, _, rfl, rfl, hL46, hL5, ?_, fun L7 n7 => ?_⟩
      · rw [List.length_append, List.length_append, List.length_map, List.length_map, List.length_map, List.length_map]
        exact Nat.le_trans (show [V.str ""].length + ws.length + ws.length + (ws.filterMap beyR).length ≤ 5000 by simp; omega) (by decide)
      have el : (([.str ""] ++ ws.map Tx) ++ (ws.map fun x => x ++ [97]).map Tx) ++ (ws.filterMap beyR).map Tx = (([] : Txt) :: (ws ++ ws.map (fun x => x ++ [97]) ++ ws.filterMap beyR)).map Tx := by
        rw [List.map_cons, List.map_append, List.map_append, nil_lit]
        simp
      rw [el]
      have lenl : (([] : Txt) :: (ws ++ ws.map (fun x => x ++ [97]) ++ ws.filterMap beyR)).length ≤ 3 * ws.length + 1 := by
        rw [List.length_cons, List.length_append, List.length_append, List.length_map]
        omega
      refine ⟨L7, _, rfl, SqL.of upd_same, by omega, fun zs b pw mem len nb => ?_⟩
      have po : PtsX ws zs := fun z => by
        rw [mem z, List.mem_cons, List.mem_append, List.mem_append, List.mem_map, List.mem_filterMap, or_assoc]
      refine k zs b _ ((S05.trans S6).new' n7 |>.new' nb) upd_same pw (fun z m => ?_) (by omega) po
      rcases (po z).mp m with rfl | m | ⟨x, mx, rfl⟩ | ⟨x, mx, e⟩
      · exact short_nil
      · exact ⟨(ok z m).1, by have := (ok z m).2; omega⟩
      · exact ⟨(ok x mx).1.app (Abc.one (.inl rfl)), by rw [List.length_append, List.length_singleton]; have := (ok x mx).2; omega⟩
      · have := bok x mx z e
        exact ⟨this.1, by omega⟩
/-! ### between the corners all texts answer the same -/
theorem rng_cell {zs : List Txt} {p : Pr} {z w : Txt} (h1 : p.1 ∈ zs) (h2 : ∀ e, p.2 = some e → e ∈ zs) (c : Cel zs z w) : inP w p = inP z p := by
  rw [← inS_one p w, ← inS_one p z]
  exact cel_in (fun q m => by rw [List.mem_singleton.mp m]; exact ⟨h1, h2⟩) c
theorem fits_cell {zs : List Txt} {wd : Str} (hw : wd = "is" ∨ wd = "below" ∨ wd = "above" ∨ wd = "begins") {y z w : Txt} (ay : Abc y) (az : Abc z) (aw : Abc w) (h0 : [] ∈ zs) (h1 : y ∈ zs) (h2 : y ++ [97] ∈ zs) (h3 : ∀ e, beyR y = some e → e ∈ zs) (c : Cel zs z w) : fits wd y w = fits wd y z := by
  rcases hw with rfl | rfl | rfl | rfl
  · show decide (w = y) = decide (z = y)
    rw [← in_is aw, ← in_is az]
    exact rng_cell h1 (fun e q => by cases q; exact h2) c
  · have b : ∀ x : Txt, fits "below" y x = decide (x < y) := fun x => rfl
    have e : ∀ x : Txt, decide (x < y) = inP x ([], some y) := fun x => by
      rw [Bool.eq_iff_iff, inP_iff, decide_eq_true_iff]
      exact ⟨fun h => ⟨nil_le _, fun e q => by cases q; exact h⟩, fun h => h.2 y rfl⟩
    rw [b, b, e, e]
    exact rng_cell h0 (fun e q => by cases q; exact h1) c
  · show decide (y < w) = decide (y < z)
    rw [← in_above aw, ← in_above az]
    exact rng_cell h2 (fun e q => by cases q) c
  · show decide (w.take y.length = y) = decide (z.take y.length = y)
    rw [← in_begins y w ay aw, ← in_begins y z ay az]
    exact rng_cell h1 h3 c
theorem yes_cell {zs : List Txt} (za : ∀ z ∈ zs, Abc z) (h0 : [] ∈ zs) {z w : Txt} (aw : Abc w) (c : Cel zs z w) : ∀ (n : Nat) {d : Dt}, Flt d → (∀ x ∈ wds n d, x ∈ zs ∧ x ++ [97] ∈ zs ∧ ∀ e, beyR x = some e → e ∈ zs) → yesB n d w = yesB n d z
  | 0, _, _, _ => rfl
  | n + 1, _, .none, _ => by rw [yes_none, yes_none]
  | n + 1, _, .say b, _ => by rw [yes_say, yes_say]
  | n + 1, _, .not f, h => by
    rw [wds_two, wdsW_not] at h
    rw [yes_not, yes_not, yes_cell za h0 aw c n f h]
  | n + 1, _, .among m, h => by
    obtain ⟨ys, rfl⟩ := txs_of m
    rw [wds_two, wdsW_among] at h
    rw [yes_among, yes_among]
    have az := za z c.1
    have e : ∀ x : Txt, decide (x ∈ ys) = ys.any fun y => decide (x = y) := fun x => by
      rw [Bool.eq_iff_iff, List.any_eq_true, decide_eq_true_iff]
      exact ⟨fun h => ⟨x, h, decide_eq_true rfl⟩, fun ⟨y, my, q⟩ => by rw [of_decide_eq_true q]; exact my⟩
    rw [e, e, Bool.eq_iff_iff, List.any_eq_true, List.any_eq_true]
    have one : ∀ y ∈ ys, decide (w = y) = decide (z = y) := fun y my => by
      obtain ⟨l, q, al⟩ := m (.str y) (List.mem_map.mpr ⟨y, my, rfl⟩)
      cases q
      obtain ⟨h1, h2, h3⟩ := h y my
      exact fits_cell (wd := "is") (.inl rfl) al az aw h0 h1 h2 h3 c
    constructor
    · rintro ⟨y, my, q⟩
      exact ⟨y, my, by rw [← one y my]; exact q⟩
    · rintro ⟨y, my, q⟩
      exact ⟨y, my, by rw [one y my]; exact q⟩
  | n + 1, _, .many (ds := ds) hw m, h => by
    rw [wds_two, wdsW_many _ hw] at h
    have one : ∀ d ∈ ds, yesB n d w = yesB n d z := fun d md => yes_cell za h0 aw c n (m d md) fun x mx => h x (List.mem_flatten.mpr ⟨_, List.mem_map.mpr ⟨d, md, rfl⟩, mx⟩)
    rcases hw with rfl | rfl
    · rw [yes_and, yes_and, Bool.eq_iff_iff, List.all_eq_true, List.all_eq_true]
      exact ⟨fun h d md => by rw [← one d md]; exact h d md, fun h d md => by rw [one d md]; exact h d md⟩
    · rw [yes_or, yes_or, Bool.eq_iff_iff, List.any_eq_true, List.any_eq_true]
      exact ⟨fun ⟨d, md, q⟩ => ⟨d, md, by rw [← one d md]; exact q⟩, fun ⟨d, md, q⟩ => ⟨d, md, by rw [one d md]; exact q⟩⟩
  | n + 1, _, .tx hw ha, h => by
    rw [wds_two, wdsW_tx _ hw] at h
    obtain ⟨h1, h2, h3⟩ := h _ (List.mem_singleton.mpr rfl)
    rw [yes_tx n hw, yes_tx n hw]
    exact fits_cell hw ha (za z c.1) aw h0 h1 h2 h3 c
theorem ptsX_sub {ws zs : List Txt} (po : PtsX ws zs) : ∀ x ∈ ws, x ∈ zs ∧ x ++ [97] ∈ zs ∧ ∀ e, beyR x = some e → e ∈ zs := fun x mx =>
  ⟨(po _).mpr (.inr (.inl mx)), (po _).mpr (.inr (.inr (.inl ⟨x, mx, rfl⟩))), fun e he => (po _).mpr (.inr (.inr (.inr ⟨x, mx, he⟩)))⟩
/-- the span of what passes has ends as long as the texts named, or one letter more -/
theorem sel_lim {n m : Nat} {d : Dt} {ds : List Pr} (fl : Flt d) (ts : tshD m d) (ok : SpOk ds) (eq : ∀ w, Abc w → inS ds w = yesB n d w) : Lim (m + 1) ds := by
  obtain ⟨zs, ez⟩ : ∃ zs : List Txt, zs = [] :: (wds n d ++ (wds n d).map (fun x => x ++ [97]) ++ (wds n d).filterMap beyR) := ⟨_, rfl⟩
  have po : PtsX (wds n d) zs := fun z => by
    rw [ez, List.mem_cons, List.mem_append, List.mem_append, List.mem_map, List.mem_filterMap, or_assoc]
  have wo := wds_ok n fl ts
  have za : ∀ z ∈ zs, Abc z ∧ z.length ≤ m + 1 := fun z mz => by
    rcases (po z).mp mz with rfl | mz | ⟨x, mx, rfl⟩ | ⟨x, mx, e⟩
    · exact ⟨Abc.nil, Nat.zero_le _⟩
    · exact ⟨(wo z mz).1, Nat.le_succ_of_le (wo z mz).2⟩
    · exact ⟨(wo x mx).1.app (Abc.one (.inl rfl)), by rw [List.length_append, List.length_singleton]; have := (wo x mx).2; omega⟩
    · obtain ⟨h1, h2, _⟩ := beyR_ok (wo x mx).1 e
      exact ⟨h1, by have := (wo x mx).2; omega⟩
  have h0 : [] ∈ zs := (po []).mpr (.inl rfl)
  have cor := corner_of ok (zs := zs) (fun z w aw c => by rw [eq w aw, eq z (za z c.1).1, yes_cell (fun z m => (za z m).1) h0 aw c n fl (ptsX_sub po)]) h0
  exact fun p mp => ⟨(za _ (cor p mp).1).2, fun e he => (za _ ((cor p mp).2 e he)).2⟩
abbrev s__law_chosen : Stmt := topS 54
abbrev N__law_chosen : List Str := ["sieve", "points", "span", "word"]
theorem sc__law_chosen : FnScope ["sieve", "points", "span", "word"] ["sieve"] (defScope s__law_chosen) := ⟨rfl, rfl, rfl, by decide +kernel, rfl, by decide +kernel, by decide +kernel⟩

/-! ### _law_chosen -/
theorem cel_ix {zs : List Txt} (pw : zs.Pairwise (· < ·)) {j : Nat} {z w : Txt} (hz : zs[j]? = some z) (l : z ≤ w) (nx : ∀ z', zs[j + 1]? = some z' → w < z') : Cel zs z w :=
  ⟨List.mem_of_getElem? hz, l, fun x m lx => pts_gap pw hz nx m lx⟩
def spCho (K : PySem.W.Frag) (n : Nat) : Sp := fun vs H Q _ => ∃ (v : V) (d : Dt), vs = [v] ∧ Fil K n H v d ∧ wtD d ≤ 130 ∧
  ∀ t b ps H', Stp [] H H' → SqT K H' t [.str (ansW (lev n none d)), .ref b] → Spn K H' b ps → (∀ w, Abc w → inS ps w = yesB n d w) → Q (.ref t) H'
theorem cl__law_chosen {f : Addr} {fd : FuncData} {n m : Nat} (hm : 2 ≤ m) (D : Df K mg "_law_chosen" s__law_chosen ["sieve"] f fd) (T : Nm mg) (c__law_corners : Cl P w K mg base 2 "_law_corners" s__law_corners ["words"] spCor) (c__law_words : Cl P w K mg base m "_law_words" s__law_words ["sieve"] (spWords K n))
    (c__law_pieces : Cl P w K mg base 1 "_law_pieces" s__law_pieces ["points", "marks"] (spPieces K)) (c__law_level : Cl P w K mg base m "_law_level" s__law_level ["sieve", "thing"] (spLev K n)) : Cl P w K mg base (m + 1) "_law_chosen" s__law_chosen ["sieve"] (spCho K n) := by
  refine D.cl sc__law_chosen (fun vs H Q E h => ?_) (fun cdv A outer s H vs Q E hr h => ?_)
  · obtain ⟨v, d, rfl, _⟩ := h
    rfl
  · obtain ⟨v, d, rfl, F, wt, k⟩ := h
    refine ⟨_, (pss_cons (ps_set (i := 1) sc__law_chosen.nd rfl (by first | exact Or.inl rfl | exact Or.inr rfl) (pe_cl c__law_corners hr (by omega) (pa_cons (pe_cl c__law_words hr (by omega) (pa_cons (pv 0) pa_nil)) pa_nil)))
      (pss_cons (ps_set (i := 2) sc__law_chosen.nd rfl (by first | exact Or.inl rfl | exact Or.inr rfl) (pe_cl c__law_pieces hr (by omega) (pa_cons (pv 1) (pa_cons (pe_lc (own := [("word", 3)]) rfl sc__law_chosen.nd (pi_list (pv 1)) (blkOk_by (own := [("word", 3)]) (N := N__law_chosen) (sc := defScope s__law_chosen) (by decide +kernel)) (fun _ _ _ _ _ => (pg_name (i := 3) sc__law_chosen.nd rfl (by first | exact Or.inl rfl | exact Or.inr rfl))) (fun _ _ _ _ _ => pts_nil) (fun _ _ _ _ _ => (pe_cmpR op_eq (pe_cl c__law_level hr (by omega) (pa_cons (pv 0) (pa_cons (pv 3) pa_nil))) pe_int (by first | exact nomark _ | rfl)))) pa_nil))))
      (pss_one (ps_ret (pe_tup (pa_cons (pe_ix ix_list (pe_lst (pa_cons pe_str (pa_cons pe_str (pa_cons pe_str pa_nil)))) (pe_cl c__law_level hr (by omega) (pa_cons (pv 0) (pa_cons pe_non pa_nil))) (fun _ _ => rfl)) (pa_cons (pv 2) pa_nil))))))), ?_⟩
    have nn : ∀ {x : Addr}, x ∉ ([] : List Addr) := fun m => nomatch m
    have len2 : (2 : Nat) ≤ sizeLine := by decide
    have len3 : (3 : Nat) ≤ sizeLine := by decide
    have wl := wds_len n F.fl
    refine ⟨_, rfl, v, d, rfl, F.rp, F.fl, F.dp, by omega, fun L H1 S1 hL => ?_⟩
    refine ⟨L, _, rfl, hL, fun x mx => wds_ok n F.fl F.ts x mx, by omega, fun zs b H2 S2 hb pw sh lz po => ?_⟩
    refine ⟨_, rfl, _, rfl, b, rfl, ⟨_, SqL.of hb⟩, fun M nM => ?_⟩
    have S02 := S1.trans S2
    refine lc_mapL (K := K) (ds := (zs.map (yesB n d)).map Dt.bl) nM (SqL.of hb) (by simp) (by rw [List.length_map]; omega) (fun j x dd H3 hx hd S3 Q2 q => ?_) fun ws H3 S3 h3 r3 => ?_
    · rw [List.getElem?_map] at hx
      rw [List.getElem?_map, List.getElem?_map] at hd
      cases e : zs[j]? with
      | none => rw [e] at hx; cases hx
      | some z =>
        rw [e] at hx hd
        cases hx
        cases hd
        have sz9 := sh z (List.mem_of_getElem? e)
        have F3 := F.up (S02.trans S3)
        refine ⟨rfl, _, rfl, _, rfl, v, d, some z, rfl, F3.rp, F3.fl, F3.dp, (fun l e => by cases e; exact ⟨sz9.1, by have := sz9.2; omega⟩), fun H4 S4 => ⟨rfl, ?_⟩⟩
        rw [show decide (V.int (lev n (some z) d) = V.int 2) = yesB n d z from decide_eq_decide.mpr ⟨fun h => V.int.inj h, fun h => by rw [h]⟩]
        exact q _ _ S4 (.bl _)
    obtain rfl := rpl_bls r3
    have m0 : [] ∈ zs := (po []).mpr (.inl rfl)
    refine ⟨b, M, zs, zs.map (yesB n d), rfl, S3.kp _ _ nn hb, h3, by simp, pw, sh, by omega, fun c ps H4 S4 sp l4 me => ?_⟩
    have eq : ∀ w, Abc w → inS ps w = yesB n d w := fun w aw => by
      obtain ⟨j, z, h1, h2, h5⟩ := cell_at zs w (by
        cases zs with
        | nil => cases m0
        | cons z zs =>
          refine ⟨z, rfl, ?_⟩
          rcases List.mem_cons.mp m0 with rfl | m0
          · exact nil_le _
          · exact absurd ((List.pairwise_cons.mp pw).1 [] m0) (by intro h; cases h))
      rw [me.yes j z _ w (List.getElem?_eq_some_iff.mp h1).1 h1 (by rw [List.getElem?_map, h1]; rfl) h2 h5]
      exact (yes_cell (fun z m => (sh z m).1) m0 aw (cel_ix pw h1 h2 h5) n F.fl (ptsX_sub po)).symm
    have S04 := (S02.trans S3).trans S4
    refine ⟨len3, fun q nq => ?_⟩
    have S5 : Stp [] H4 (upd H4 q (.lst [.str "no", .str "open", .str "yes"])) := Stp.new nq _
    have hq : (upd H4 q (.lst [.str "no", .str "open", .str "yes"])) q = some (.lst [.str "no", .str "open", .str "yes"]) := upd_same
    generalize upd H4 q (.lst [.str "no", .str "open", .str "yes"]) = H5 at *
    have F5 := F.up (S04.trans S5)
    refine ⟨_, rfl, v, d, none, rfl, F5.rp, F5.fl, F5.dp, (fun l e => by cases e), fun H6 S6 => ?_⟩
    have hq6 := S6.kp _ _ nn hq
    have ev : atI [V.str "no", V.str "open", V.str "yes"] (lev n none d) = some (.str (ansW (lev n none d))) := by
      rcases lev_in n none d with e | e | e <;> rw [e] <;> decide +kernel
    refine ⟨q, _, _, _, rfl, rfl, SqL.of hq6, ev, ?_⟩
    refine ⟨_, rfl, len2, fun t nt => ?_⟩
    exact k t c ps _ (((S04.trans S5).trans S6).new' nt) (SqT.of upd_same) (((sp.up S5).up S6).up (Stp.new nt [])) eq
abbrev s__law_said : Stmt := topS 55
abbrev N__law_said : List Str := ["word", "text", "way"]
theorem sc__law_said : FnScope ["word", "text", "way"] ["word", "text", "way"] (defScope s__law_said) := ⟨rfl, rfl, rfl, by decide +kernel, rfl, by decide +kernel, by decide +kernel⟩

/-! ### filters written otherwise -/
theorem two_up {H : Hp} {t : Addr} {z : Str} {v : V} {d : Dt} (nt : H t = none) (r : Rp K H v d) (lz : z.cps.toList.length ≤ 100000) : Rp K (upd H t (.tup [.str z, v])) (.ref t) (.tup [.str z.cps.toList, d]) :=
  .tup (SqT.of upd_same) (by simp) (.cons (Rp.lit z lz) (.cons (r.stp (Stp.new nt []) Lsts.nil) .nil))
/-- ("and", (v, u)) and its like: two tuples -/
theorem many_up {H : Hp} {t s : Addr} {z : Str} {vs : List V} {ds : List Dt} (nt : H t = none) (ns : (upd H t (.tup vs)) s = none) (r : RpL K H vs ds) (lz : z.cps.toList.length ≤ 100000) (few : vs.length ≤ 100000) : Rp K (upd (upd H t (.tup vs)) s (.tup [.str z, .ref t])) (.ref s) (manyD z ds) :=
  two_up ns (.tup (SqT.of upd_same) few (r.stp (Stp.new nt []) Lsts.nil)) lz
structure Fin (d : Dt) : Prop where
  fl : Flt d
  ts : tshD 12 d
theorem lz9 {s : Str} (h : s = "none" ∨ s = "or" ∨ s = "and" ∨ s = "not" ∨ s = "among" ∨ s = "is" ∨ s = "below" ∨ s = "above" ∨ s = "begins" ∨ s = "say") : s.cps.toList.length ≤ 100000 := by have := lit9 h; omega
theorem Fin.tx {w : Str} (hw : w = "is" ∨ w = "below" ∨ w = "above" ∨ w = "begins") {y : Txt} (a : Abc y) (l : y.length ≤ 12) : Fin (txD w y) := ⟨.tx hw a, lit9 (by rcases hw with rfl | rfl | rfl | rfl <;> simp), l, trivial⟩
theorem Fin.not {d : Dt} (h : Fin d) : Fin (notD d) := ⟨.not h.fl, lit9 (by simp), h.ts, trivial⟩
theorem Fin.many {w : Str} (hw : w = "and" ∨ w = "or") {ds : List Dt} (h : ∀ d ∈ ds, Fin d) : Fin (manyD w ds) := ⟨.many hw fun d m => (h d m).fl, lit9 (by rcases hw with rfl | rfl <;> simp), tshL_of fun d m => (h d m).ts, trivial⟩
theorem Fin.say (b : Bool) : Fin (sayD b) := ⟨.say b, lit9 (by simp), trivial, trivial⟩
theorem Fin.non : Fin nonD := ⟨.none, lit9 (by simp), trivial⟩
theorem Fin.amg {ys : List Txt} (h : ∀ y ∈ ys, Abc y ∧ y.length ≤ 12) : Fin (amgD ys) := ⟨.among fun d m => by
  obtain ⟨y, my, rfl⟩ := List.mem_map.mp m
  exact ⟨y, rfl, (h y my).1⟩, lit9 (by simp), tshL_of fun d m => by
  obtain ⟨y, my, rfl⟩ := List.mem_map.mp m
  exact (h y my).2, trivial⟩
theorem wt_tx (w : Str) (y : Txt) : wtD (txD w y) = 4 := rfl
theorem wt_not (d : Dt) : wtD (notD d) = wtD d + 3 := by show 1 + (wtD d + 0) + 2 = _; omega
theorem wt_many (w : Str) (ds : List Dt) : wtD (manyD w ds) = wtL ds + 5 := by show 1 + ((wtL ds + 2) + 0) + 2 = _; omega
theorem wt_amg (ys : List Txt) : wtD (amgD ys) = ys.length + 5 := by show 1 + ((wtL (ys.map Dt.str) + 2) + 0) + 2 = _; rw [wt_strs]; omega
theorem dep_tx (w : Str) (y : Txt) : (txD w y).dep = 1 := rfl
theorem dep_amg (ys : List Txt) : (amgD ys).dep = 2 := by simp [amgD, Dt.dep, Dt.depL, dep_strs]
/-- what a filter may become -/
structure Rew (K : PySem.W.Frag) (H : Hp) (v : V) (d d' : Dt) : Prop where
  rp : Rp K H v d'
  fi : Fin d'
  wt : wtD d' ≤ 4 * wtD d + 20
  dp : d'.dep ≤ d.dep + 4
  sm : Same d d'
def spSaid (K : PySem.W.Frag) : Sp := fun vs H Q _ => ∃ (w : Str) (y : Txt) (way : Int), vs = [.str w, Tx y, .int way] ∧ (w = "is" ∨ w = "below" ∨ w = "above" ∨ w = "begins") ∧ Abc y ∧ y.length ≤ 11 ∧ ∀ v d' H', Stp [] H H' → Rew K H' v (txD w y) d' → Q v H'
theorem cl__law_said {f : Addr} {fd : FuncData} (D : Df K mg "_law_said" s__law_said ["word", "text", "way"] f fd) (T : Nm mg) (c__law_past : Cl P w K mg base 1 "_law_past" s__law_past ["word"] spPastX) : Cl P w K mg base 2 "_law_said" s__law_said ["word", "text", "way"] (spSaid K) := by
  refine D.cl sc__law_said (fun vs H Q E h => ?_) (fun cdv A outer s H vs Q E hr h => ?_)
  · obtain ⟨wd, y, way, rfl, _⟩ := h
    rfl
  · obtain ⟨wd, y, way, rfl, hw, ay, ly, k⟩ := h
    refine ⟨_, (pss_cons (ps_if (PW.pt (pw_and (pt_cmpR op_eq (pv 0) pe_str (by first | exact nomark _ | rfl)) (pw_and1 (pt_cmpR op_lt (pv 2) pe_int (by first | exact nomark _ | rfl))))) (pss_one (ps_ret (pe_tup (pa_cons pe_str (pa_cons (pe_tup (pa_cons (pv 1) pa_nil)) pa_nil))))) pss_nil)
      (pss_cons (ps_if (pt_cmpR op_eq (pv 0) pe_str (by first | exact nomark _ | rfl)) (pss_one (ps_ret (pe_tup (pa_cons pe_str (pa_cons (pe_tup (pa_cons (pe_tup (pa_cons pe_str (pa_cons (pe_tup (pa_cons pe_str (pa_cons (pv 1) pa_nil))) pa_nil))) (pa_cons (pe_tup (pa_cons pe_str (pa_cons (pe_op op_add_str (pv 1) pe_str) pa_nil))) pa_nil))) pa_nil))))) pss_nil)
      (pss_cons (ps_if (pt_cmpR op_eq (pv 0) pe_str (by first | exact nomark _ | rfl)) (pss_one (ps_ret (pe_tup (pa_cons pe_str (pa_cons (pe_tup (pa_cons pe_str (pa_cons (pe_tup (pa_cons (pe_tup (pa_cons pe_str (pa_cons (pv 1) pa_nil))) (pa_cons (pe_tup (pa_cons pe_str (pa_cons (pv 1) pa_nil))) pa_nil))) pa_nil))) pa_nil))))) pss_nil)
      (pss_cons (ps_if (pt_cmpR op_eq (pv 0) pe_str (by first | exact nomark _ | rfl)) (pss_one (ps_ret (pe_tup (pa_cons pe_str (pa_cons (pe_tup (pa_cons pe_str (pa_cons (pe_op op_add_str (pv 1) pe_str) pa_nil))) pa_nil))))) pss_nil)
      (pss_cons (ps_if (pt_cmpR op_isN (pe_cl c__law_past hr (by omega) (pa_cons (pv 1) pa_nil)) pe_non (by first | exact nomark _ | rfl)) (pss_one (ps_ret (pe_tup (pa_cons pe_str (pa_cons (pe_tup (pa_cons pe_str (pa_cons (pv 1) pa_nil))) pa_nil))))) pss_nil)
      (pss_one (ps_ret (pe_tup (pa_cons pe_str (pa_cons (pe_tup (pa_cons (pe_tup (pa_cons pe_str (pa_cons (pe_tup (pa_cons pe_str (pa_cons (pv 1) pa_nil))) pa_nil))) (pa_cons (pe_tup (pa_cons pe_str (pa_cons (pe_cl c__law_past hr (by omega) (pa_cons (pv 1) pa_nil)) pa_nil))) pa_nil))) pa_nil)))))))))), ?_⟩
    have nf : ∀ {a b : Str}, a ≠ b → ¬ decide (V.str a = V.str b) = true := fun n h => n (V.str.inj (of_decide_eq_true h))
    have tf : ∀ {a : Str}, decide (V.str a = V.str a) = true := decide_eq_true rfl
    have len2 : (2 : Nat) ≤ sizeLine := by decide
    have len1 : (1 : Nat) ≤ sizeLine := by decide
    have ry : ∀ {H : Hp}, Rp K H (Tx y) (.str y) := fun {H} => .str y (by omega)
    have aya : Abc (y ++ [97]) := ay.app (Abc.one (.inl rfl))
    have lya : (y ++ [97]).length ≤ 12 := by rw [List.length_append, List.length_singleton]; omega
    have rya : ∀ {H : Hp}, Rp K H (Tx (y ++ [97])) (.str (y ++ [97])) := fun {H} => .str _ (by omega)
    have cat : (tx y).length + (tx [97]).length ≤ sizeLine := by rw [tx_len, tx_len]; exact sz (by simp; omega)
    have fi1 : Fin (txD "is" y) := Fin.tx (.inl rfl) ay (by omega)
    have fb1 : Fin (txD "below" y) := Fin.tx (.inr (.inl rfl)) ay (by omega)
    have fb2 : Fin (txD "below" (y ++ [97])) := Fin.tx (.inr (.inl rfl)) aya lya
    have fa1 : Fin (txD "above" y) := Fin.tx (.inr (.inr (.inl rfl))) ay (by omega)
    have lzb : ("below" : Str).cps.toList.length ≤ 100000 := lz9 (by simp)
    have lzn : ("not" : Str).cps.toList.length ≤ 100000 := lz9 (by simp)
    have lza : ("and" : Str).cps.toList.length ≤ 100000 := lz9 (by simp)
    -- ("not", ("below", y))
    have nb : ∀ {H : Hp} {t1 t2 : Addr}, H t1 = none → (upd H t1 (.tup [.str "below", Tx y])) t2 = none → Rp K (upd (upd H t1 (.tup [.str "below", Tx y])) t2 (.tup [.str "not", .ref t1])) (.ref t2) (notD (txD "below" y)) := fun {H t1 t2} n1 n2 =>
      two_up n2 (two_up n1 ry lzb) lzn
    -- ("and", (.., ("below", e)))
    have rng : ∀ {H : Hp} {t2 t3 t4 t5 : Addr} {e : Txt} {d1 : Dt}, Rp K H (.ref t2) d1 → e.length ≤ 100 → H t3 = none → (upd H t3 (.tup [.str "below", Tx e])) t4 = none → (upd (upd H t3 (.tup [.str "below", Tx e])) t4 (.tup [.ref t2, .ref t3])) t5 = none →
        Rp K (upd (upd (upd H t3 (.tup [.str "below", Tx e])) t4 (.tup [.ref t2, .ref t3])) t5 (.tup [.str "and", .ref t4])) (.ref t5) (manyD "and" [d1, txD "below" e]) := fun {H t2 t3 t4 t5 e d1} r le n3 n4 n5 =>
      many_up n4 n5 (.cons (r.stp (Stp.new n3 []) Lsts.nil) (.cons (two_up n3 (.str e (by omega)) lzb) .nil)) lza (by simp)
    rcases hw with rfl | rfl | rfl | rfl
    · -- is
      refine ⟨_, rfl, rfl, _, rfl, ite2 (fun _ => ?_) (fun h => absurd tf h)⟩
      refine ⟨_, rfl, _, _, rfl, rfl, _, rfl, ite2 (fun h => ?_) (fun h => ?_)⟩
      · refine ⟨_, rfl, len1, fun t nt => ⟨len2, fun t2 nt2 => ?_⟩⟩
        refine k (.ref t2) (amgD [y]) _ ((Stp.new nt []).new' nt2) ⟨two_up nt2 (.tup (SqT.of upd_same) (by simp) (.cons ry .nil)) (lz9 (by simp)), Fin.amg fun z m => ?_, ?_, ?_, e_is1 y⟩
        · rw [List.mem_singleton.mp m]
          exact ⟨ay, by omega⟩
        · rw [wt_amg, wt_tx, List.length_singleton]; decide
        · rw [dep_amg, dep_tx]; decide
      · refine ⟨_, rfl, rfl, _, rfl, ite2 (fun _ => ?_) (fun h => absurd tf h)⟩
        refine ⟨_, rfl, len2, fun t1 n1 => ⟨len2, fun t2 n2 => ?_⟩⟩
        have S2 : Stp [] H (upd (upd H t1 (.tup [.str "below", Tx y])) t2 (.tup [.str "not", .ref t1])) := (Stp.new n1 []).new' n2
        have r2 := nb n1 n2
        generalize upd (upd H t1 (.tup [.str "below", Tx y])) t2 (.tup [.str "not", .ref t1]) = H2 at *
        refine ⟨_, rfl, tx y, tx [97], rfl, congrArg V.str a_lit, cat, ?_⟩
        rw [tx_app]
        refine ⟨len2, fun t3 n3 => ⟨len2, fun t4 n4 => ⟨len2, fun t5 n5 => ?_⟩⟩⟩
        refine k (.ref t5) (manyD "and" [notD (txD "below" y), txD "below" (y ++ [97])]) _ (((S2.new' n3).new' n4).new' n5) ⟨rng r2 (by omega) n3 n4 n5, Fin.many (.inl rfl) fun d m => ?_, ?_, ?_, e_is2 y⟩
        · rcases List.mem_cons.mp m with rfl | m
          · exact fb1.not
          · rw [List.mem_singleton.mp m]; exact fb2
        · rw [wt_many, wt_tx]; show wtD (notD (txD "below" y)) + (wtD (txD "below" (y ++ [97])) + 0) + 5 ≤ _; rw [wt_not, wt_tx, wt_tx]; decide
        · rw [dep_many, dep_tx]; show max (max 0 (max 1 0) + 1) (max 1 0) + 2 ≤ 5; decide
    · -- below
      refine ⟨_, rfl, rfl, _, rfl, ite2 (fun h => absurd h (nf (by decide +kernel))) (fun _ => ite2 (fun h => nomatch h) (fun _ => ?_))⟩
      refine ⟨_, rfl, rfl, _, rfl, ite2 (fun h => absurd h (nf (by decide +kernel))) (fun _ => ?_)⟩
      refine ⟨_, rfl, rfl, _, rfl, ite2 (fun _ => ?_) (fun h => absurd tf h)⟩
      refine ⟨_, rfl, len2, fun t1 n1 => ⟨_, rfl, len2, fun t2 n2 => ⟨len2, fun t3 n3 => ⟨len2, fun t4 n4 => ⟨len2, fun t5 n5 => ?_⟩⟩⟩⟩⟩
      have s1 : Stp [] H (upd H t1 (.tup [.str "is", Tx y])) := Stp.new n1 _
      have r1 : Rp K (upd H t1 (.tup [.str "is", Tx y])) (.ref t1) (txD "is" y) := two_up n1 ry (lz9 (by simp))
      generalize upd H t1 (.tup [.str "is", Tx y]) = H1 at *
      have s2 : Stp [] H1 (upd H1 t2 (.tup [.str "above", Tx y])) := Stp.new n2 _
      have r2 : Rp K (upd H1 t2 (.tup [.str "above", Tx y])) (.ref t2) (txD "above" y) := two_up n2 ry (lz9 (by simp))
      have r1' := r1.stp s2 Lsts.nil
      generalize upd H1 t2 (.tup [.str "above", Tx y]) = H2 at *
      refine k (.ref t5) (notD (manyD "or" [txD "is" y, txD "above" y])) _ ((((s1.trans s2).new' n3).new' n4).new' n5) ⟨two_up n5 (many_up n3 n4 (.cons r1' (.cons r2 .nil)) (lz9 (by simp)) (by simp)) lzn, (Fin.many (.inr rfl) fun d m => ?_).not, ?_, ?_, e_below y⟩
      · rcases List.mem_cons.mp m with rfl | m
        · exact fi1
        · rw [List.mem_singleton.mp m]; exact fa1
      · rw [wt_not, wt_many, wt_tx]; show 4 + (4 + 0) + 5 + 3 ≤ 4 * 4 + 20; decide
      · rw [dep_not, dep_many, dep_tx]; show max 1 (max 1 0) + 2 + 1 ≤ 5; decide
    · -- above
      refine ⟨_, rfl, rfl, _, rfl, ite2 (fun h => absurd h (nf (by decide +kernel))) (fun _ => ite2 (fun h => nomatch h) (fun _ => ?_))⟩
      refine ⟨_, rfl, rfl, _, rfl, ite2 (fun h => absurd h (nf (by decide +kernel))) (fun _ => ?_)⟩
      refine ⟨_, rfl, rfl, _, rfl, ite2 (fun h => absurd h (nf (by decide +kernel))) (fun _ => ?_)⟩
      refine ⟨_, rfl, rfl, _, rfl, ite2 (fun _ => ?_) (fun h => absurd tf h)⟩
      refine ⟨_, rfl, tx y, tx [97], rfl, congrArg V.str a_lit, cat, ?_⟩
      rw [tx_app]
      refine ⟨len2, fun t1 n1 => ⟨len2, fun t2 n2 => ?_⟩⟩
      refine k (.ref t2) (notD (txD "below" (y ++ [97]))) _ ((Stp.new n1 []).new' n2) ⟨two_up n2 (two_up n1 rya lzb) lzn, fb2.not, ?_, ?_, e_above y⟩
      · rw [wt_not, wt_tx, wt_tx]; decide
      · rw [dep_not, dep_tx, dep_tx]; decide
    · -- begins
      refine ⟨_, rfl, rfl, _, rfl, ite2 (fun h => absurd h (nf (by decide +kernel))) (fun _ => ite2 (fun h => nomatch h) (fun _ => ?_))⟩
      refine ⟨_, rfl, rfl, _, rfl, ite2 (fun h => absurd h (nf (by decide +kernel))) (fun _ => ?_)⟩
      refine ⟨_, rfl, rfl, _, rfl, ite2 (fun h => absurd h (nf (by decide +kernel))) (fun _ => ?_)⟩
      refine ⟨_, rfl, rfl, _, rfl, ite2 (fun h => absurd h (nf (by decide +kernel))) (fun _ => ?_)⟩
      refine ⟨_, rfl, y, rfl, ⟨ay, by omega⟩, rfl, _, rfl, ?_⟩
      cases q : beyR y with
      | none =>
        refine ite2 (fun _ => ?_) (fun h => absurd (show _ = true from rfl) h)
        refine ⟨_, rfl, len2, fun t1 n1 => ⟨len2, fun t2 n2 => ?_⟩⟩
        refine k (.ref t2) (notD (txD "below" y)) _ ((Stp.new n1 []).new' n2) ⟨nb n1 n2, fb1.not, ?_, ?_, e_beg0 ay q⟩
        · rw [wt_not, wt_tx, wt_tx]; decide
        · rw [dep_not, dep_tx, dep_tx]; decide
      | some e =>
        obtain ⟨ae, le, lt⟩ := beyR_ok ay q
        refine ite2 (fun h => absurd h (by simp [oV])) (fun _ => ?_)
        refine ⟨_, rfl, len2, fun t1 n1 => ⟨len2, fun t2 n2 => ?_⟩⟩
        have S2 : Stp [] H (upd (upd H t1 (.tup [.str "below", Tx y])) t2 (.tup [.str "not", .ref t1])) := (Stp.new n1 []).new' n2
        have r2 := nb n1 n2
        generalize upd (upd H t1 (.tup [.str "below", Tx y])) t2 (.tup [.str "not", .ref t1]) = H2 at *
        refine ⟨_, rfl, y, rfl, ⟨ay, by omega⟩, ?_⟩
        rw [q]
        refine ⟨len2, fun t3 n3 => ⟨len2, fun t4 n4 => ⟨len2, fun t5 n5 => ?_⟩⟩⟩
        refine k (.ref t5) (manyD "and" [notD (txD "below" y), txD "below" e]) _ (((S2.new' n3).new' n4).new' n5) ⟨rng r2 (by omega) n3 n4 n5, Fin.many (.inl rfl) fun d m => ?_, ?_, ?_, e_beg1 ay q⟩
        · rcases List.mem_cons.mp m with rfl | m
          · exact fb1.not
          · rw [List.mem_singleton.mp m]; exact Fin.tx (.inr (.inl rfl)) ae (by omega)
        · rw [wt_many, wt_tx]; show wtD (notD (txD "below" y)) + (wtD (txD "below" e) + 0) + 5 ≤ _; rw [wt_not, wt_tx, wt_tx]; decide
        · rw [dep_many, dep_tx]; show max (max 0 (max 1 0) + 1) (max 1 0) + 2 ≤ 5; decide
abbrev s__law_parts_same : Stmt := topS 56
abbrev N__law_parts_same : List Str := ["word", "parts", "way", "dual", "part"]
theorem sc__law_parts_same : FnScope ["word", "parts", "way", "dual", "part"] ["word", "parts", "way"] (defScope s__law_parts_same) := ⟨rfl, rfl, rfl, by decide +kernel, rfl, by decide +kernel, by decide +kernel⟩

abbrev s__law_not_same : Stmt := topS 57
abbrev N__law_not_same : List Str := ["part", "way", "each"]
theorem sc__law_not_same : FnScope ["part", "way", "each"] ["part", "way"] (defScope s__law_not_same) := ⟨rfl, rfl, rfl, by decide +kernel, rfl, by decide +kernel, by decide +kernel⟩

theorem op_neDK {X : Cx} {K : PySem.W.Frag} (hK : X.K = K) (hu : X.A.units + 64 < cLine) : OpR X (compareOp .NotEq) (rNeD K) := by
  subst hK
  exact op_neD hu
theorem catT_use {H : Hp} {a b : Addr} {xs ys : List V} {Q : VK} (ha : SqT K H a xs) (hb : SqT K H b ys) (few : xs.length + ys.length ≤ 100000) (k : ∀ p H', Stp [] H H' → SqT K H' p (xs ++ ys) → Q (.ref p) H') : rCatA K (.ref a) (.ref b) H Q := by
  refine ⟨a, b, xs, ys, rfl, rfl, ha, hb, Nat.le_trans few (by decide), fun e => ?_, fun _ e => ?_, fun _ _ p np => ?_⟩
  · subst e
    exact k b H (Stp.refl _ _) (by rw [List.nil_append]; exact hb)
  · subst e
    exact k a H (Stp.refl _ _) (by rw [List.append_nil]; exact ha)
  · exact k p _ (Stp.new np []) (SqT.of upd_same)
theorem flt_wt {d : Dt} (f : Flt d) : 3 ≤ wtD d := by
  cases f with
  | tx _ _ => show 3 ≤ 4; decide
  | none => decide
  | say b => show 3 ≤ 4; decide
  | not _ => show 3 ≤ wtD (notD _); rw [wt_not]; omega
  | among h => show 3 ≤ 1 + (_ + 2 + 0) + 2; omega
  | many hw h => show 3 ≤ 1 + (_ + 2 + 0) + 2; omega
theorem len_wt : ∀ {ds : List Dt}, (∀ d ∈ ds, Fin d) → 3 * ds.length ≤ wtL ds
  | [], _ => Nat.zero_le _
  | d :: ds, h => by
    have a := flt_wt (h d List.mem_cons_self).fl
    have b := len_wt (ds := ds) fun e m => h e (List.mem_cons_of_mem _ m)
    show 3 * (ds.length + 1) ≤ wtD d + wtL ds
    omega
theorem wt_nots : ∀ (ds : List Dt), wtL (ds.map notD) = wtL ds + 3 * ds.length
  | [] => rfl
  | d :: ds => by
    show wtD (notD d) + wtL (ds.map notD) = wtD d + wtL ds + 3 * (ds.length + 1)
    rw [wt_not, wt_nots ds]
    omega
theorem depL_nots (ds : List Dt) : Dt.depL (ds.map notD) ≤ Dt.depL ds + 1 := Dt.depL_le fun d m => by
  obtain ⟨e, me, rfl⟩ := List.mem_map.mp m
  rw [dep_not]
  have := Dt.dep_mem me
  omega
theorem wtL_app' : ∀ (a b : List Dt), wtL (a ++ b) = wtL a + wtL b
  | [], b => (Nat.zero_add _).symm
  | d :: a, b => by
    show wtD d + wtL (a ++ b) = wtD d + wtL a + wtL b
    rw [wtL_app' a b, Nat.add_assoc]
theorem wtL_rev : ∀ (ds : List Dt), wtL ds.reverse = wtL ds
  | [] => rfl
  | d :: ds => by
    rw [List.reverse_cons, wtL_app', wtL_rev ds]
    show wtL ds + (wtD d + 0) = wtD d + wtL ds
    omega
theorem wtL_filter (f : Dt → Bool) : ∀ (ds : List Dt), wtL (ds.filter f) ≤ wtL ds
  | [] => Nat.le_refl _
  | d :: ds => by
    have := wtL_filter f ds
    rw [List.filter_cons]
    split
    · show wtD d + wtL (ds.filter f) ≤ wtD d + wtL ds
      omega
    · show _ ≤ wtD d + wtL ds
      omega
theorem depL_sub {as bs : List Dt} (h : ∀ d ∈ as, d ∈ bs) : Dt.depL as ≤ Dt.depL bs := Dt.depL_le fun d m => Dt.dep_mem (h d m)
/-! ### parts as data -/
theorem lay_lit {s : Str} (h : s = "none" ∨ s = "or" ∨ s = "and" ∨ s = "not" ∨ s = "among" ∨ s = "is" ∨ s = "below" ∨ s = "above" ∨ s = "begins" ∨ s = "say") : PyData.canLay0 (.str (tx s.cps.toList)) = true := by
  rw [lit_tx]
  rcases h with rfl | rfl | rfl | rfl | rfl | rfl | rfl | rfl | rfl | rfl <;> decide +kernel
theorem lay_all {f : Dt → Prop} (h : ∀ d, f d → PyData.canLay0 (pyD d) = true) : ∀ {ds : List Dt}, (∀ d ∈ ds, f d) → PyData.canLayAll0 (pyL ds) = true
  | [], _ => rfl
  | d :: ds, g => by
    show (PyData.canLay0 (pyD d) && PyData.canLayAll0 (pyL ds)) = true
    rw [h d (g d List.mem_cons_self), lay_all h fun e m => g e (List.mem_cons_of_mem _ m)]
    rfl
theorem lay_two {x y : PyData} (h1 : PyData.canLay0 x = true) (h2 : PyData.canLay0 y = true) : PyData.canLay0 (.tuple [x, y]) = true := by
  show (PyData.canLay0 x && (PyData.canLay0 y && true)) = true
  rw [h1, h2]
  rfl
theorem lay_flt {d : Dt} (f : Flt d) : PyData.canLay0 (pyD d) = true := by
  induction f with
  | @tx wd l hw ha => exact lay_two (lay_lit (by rcases hw with rfl | rfl | rfl | rfl <;> simp)) (strOk_abc ha)
  | none =>
    show (PyData.canLay0 (.str (tx ("none" : Str).cps.toList)) && true) = true
    rw [lay_lit (by simp)]
    rfl
  | say b => exact lay_two (lay_lit (by simp)) rfl
  | not _ ih => exact lay_two (lay_lit (by simp)) ih
  | @among ds h => exact lay_two (lay_lit (by simp)) (lay_all (f := IsTx) (fun d hd => by obtain ⟨l, rfl, al⟩ := hd; exact strOk_abc al) h)
  | @many wd ds hw h ih =>
    refine lay_two (lay_lit (by rcases hw with rfl | rfl <;> simp)) (lay_all (f := fun d => d ∈ ds) (fun d hd => ih d hd) fun d m => m)
theorem shaped_flt {d : Dt} (f : Flt d) (dp : d.dep ≤ 64) : SeqAt.shaped (pyD d) = true := by
  have := dep_py d
  unfold SeqAt.shaped
  rw [lay_flt f, decide_eq_true (by omega)]
  rfl
theorem say_eq {d : Dt} (f : Flt d) {b : Bool} (h : PyData.eqv (pyD d) (.tuple [.str "say", .bool b]) = true) : d = sayD b := by
  have two : ∀ (x y u v : PyData), PyData.eqv (.tuple [x, y]) (.tuple [u, v]) = (PyData.eqv x u && PyData.eqv y v) := fun x y u v => by simp [PyData.eqv, PyData.eqvAll]
  have st : ∀ x y : Str, PyData.eqv (.str x) (.str y) = (x == y) := fun x y => by simp [PyData.eqv]
  have no : ∀ {s : Str} {y : PyData}, s ≠ "say" → ¬ PyData.eqv (.tuple [.str (tx s.cps.toList), y]) (.tuple [.str "say", .bool b]) = true := fun {s y} n g => by
    rw [two, st, lit_tx, Bool.and_eq_true] at g
    exact n (beq_iff_eq.mp g.1)
  cases f with
  | tx hw ha => exact absurd h (no (by rcases hw with rfl | rfl | rfl | rfl <;> decide +kernel))
  | none =>
    have : PyData.eqv (.tuple [.str (tx ("none" : Str).cps.toList)]) (.tuple [.str "say", .bool b]) = false := by simp [PyData.eqv, PyData.eqvAll]
    exact absurd (this.symm.trans h) (by decide)
  | say c =>
    have g : PyData.eqv (.tuple [.str (tx ("say" : Str).cps.toList), .bool c]) (.tuple [.str "say", .bool b]) = true := h
    rw [two, Bool.and_eq_true] at g
    have g2 : (c == b) = true := by simpa [PyData.eqv] using g.2
    rw [beq_iff_eq.mp g2]
    rfl
  | not _ => exact absurd h (no (by decide +kernel))
  | among _ => exact absurd h (no (by decide +kernel))
  | many hw _ => exact absurd h (no (by rcases hw with rfl | rfl <;> decide +kernel))
def spPSame (K : PySem.W.Frag) : Sp := fun vs H Q _ => ∃ (wd : Str) (b : Addr) (way : Int) (us : List V) (ds : List Dt), vs = [.str wd, .ref b, .int way] ∧ (wd = "and" ∨ wd = "or") ∧ SqT K H b us ∧ RpL K H us ds ∧ (∀ d ∈ ds, Fin d) ∧ us.length ≤ 1000 ∧ (manyD wd ds).dep ≤ 60 ∧
  ∀ v d' H', Stp [] H H' → Rew K H' v (manyD wd ds) d' → Q v H'
theorem cl__law_parts_same {f : Addr} {fd : FuncData} (D : Df K mg "_law_parts_same" s__law_parts_same ["word", "parts", "way"] f fd) (T : Nm mg) : Cl P w K mg base 1 "_law_parts_same" s__law_parts_same ["word", "parts", "way"] (spPSame K) := by
  refine D.cl sc__law_parts_same (fun vs H Q E h => ?_) (fun cdv A outer s H vs Q E hr h => ?_)
  · obtain ⟨wd, b, way, us, ds, rfl, _⟩ := h
    rfl
  · obtain ⟨wd, b, way, us, ds, rfl, hw, hb, rl, fin, few, dpm, k⟩ := h
    refine ⟨_, (pss_cons (ps_set (i := 3) sc__law_parts_same.nd rfl (by first | exact Or.inl rfl | exact Or.inr rfl) (pe_ifExp (pt_cmpR op_eq (pv 0) pe_str (by first | exact nomark _ | rfl)) pe_str pe_str))
      (pss_cons (ps_if (pt_cmpR op_eq (pv 2) pe_int (by first | exact nomark _ | rfl)) (pss_one (ps_ret (pe_tup (pa_cons (pv 0) (pa_cons (Pg.pe_revT (pv 1)) pa_nil))))) pss_nil)
      (pss_cons (ps_if (pt_cmpR op_eq (pv 2) pe_int (by first | exact nomark _ | rfl)) (pss_one (ps_ret (pe_tup (pa_cons pe_str (pa_cons (pe_tup (pa_cons (pv 3) (pa_cons (pe_callTy call_tuple_of (by rfl) T.n_tuple (by decide +kernel) (pa_cons (pe_lc (own := [("part", 4)]) rfl sc__law_parts_same.nd (pi_tup (pv 1)) (blkOk_by (own := [("part", 4)]) (N := N__law_parts_same) (sc := defScope s__law_parts_same) (by decide +kernel)) (fun _ _ _ _ _ => (pg_name (i := 4) sc__law_parts_same.nd rfl (by first | exact Or.inl rfl | exact Or.inr rfl))) (fun _ _ _ _ _ => pts_nil) (fun _ _ _ _ _ => (pe_tup (pa_cons pe_str (pa_cons (pv 4) pa_nil))))) pa_nil)) pa_nil))) pa_nil))))) pss_nil)
      (pss_cons (ps_if (pt_cmpR op_eq (pv 2) pe_int (by first | exact nomark _ | rfl)) (pss_one (ps_ret (pe_tup (pa_cons (pv 0) (pa_cons (pe_callTy call_tuple_of (by rfl) T.n_tuple (by decide +kernel) (pa_cons (pe_lc (own := [("part", 4)]) rfl sc__law_parts_same.nd (pi_tup (pv 1)) (blkOk_by (own := [("part", 4)]) (N := N__law_parts_same) (sc := defScope s__law_parts_same) (by decide +kernel)) (fun _ _ _ _ _ => (pg_name (i := 4) sc__law_parts_same.nd rfl (by first | exact Or.inl rfl | exact Or.inr rfl))) (fun _ _ _ _ _ => (pts_one (pt_cmpR (op_neDK (K := K) rfl hr.units) (pv 4) (pe_tup (pa_cons pe_str (pa_cons (pe_cmpR op_eq (pv 0) pe_str (by first | exact nomark _ | rfl)) pa_nil))) (by first | exact nomark _ | rfl)))) (fun _ _ _ _ _ => (pv 4))) pa_nil)) pa_nil))))) pss_nil)
      (pss_cons (ps_if (pt_cmpR op_eq (pe_callB call_len_seq (by rfl) T.n_len (by decide +kernel) (pa_cons (pv 1) pa_nil)) pe_int (by first | exact nomark _ | rfl)) (pss_one (ps_ret (pe_ix ix_tup (pv 1) pe_int (fun _ _ => rfl)))) pss_nil)
      (pss_one (ps_ret (pe_tup (pa_cons (pv 0) (pa_cons (pe_op op_catA (pe_slice sl_tupA (pv 1) po_none (po_some pe_int)) (pe_tup (pa_cons (pe_tup (pa_cons (pv 0) (pa_cons (pe_slice sl_tupA (pv 1) (po_some pe_int) po_none) pa_nil))) pa_nil))) pa_nil)))))))))), ?_⟩
    have nn : ∀ {x : Addr}, x ∉ ([] : List Addr) := fun m => nomatch m
    have len2 : (2 : Nat) ≤ sizeLine := by decide
    have len1 : (1 : Nat) ≤ sizeLine := by decide
    have lu : us.length = ds.length := rl.len
    have lzw : wd.cps.toList.length ≤ 100000 := lz9 (by rcases hw with rfl | rfl <;> simp)
    have lzd : (dual wd).cps.toList.length ≤ 100000 := by rcases hw with rfl | rfl <;> decide +kernel
    have hd : dual wd = "and" ∨ dual wd = "or" := by rcases hw with rfl | rfl <;> decide +kernel
    have lw := len_wt fin
    have dm := dep_many wd ds
    have wm := wt_many wd ds
    -- dual
    dsimp only
    refine seq_end (fun σ H' => σ = [some (.str wd), some (.ref b), some (.int way), some (.str (dual wd)), none] ∧ H' = H) ?_ (fun fin2 => ?_)
    rotate_left
    · refine ⟨_, rfl, rfl, _, rfl, ?_⟩
      rcases hw with rfl | rfl
      · exact ite2 (fun _ => fin2 _ _ ⟨rfl, rfl⟩) (fun h => absurd (decide_eq_true rfl) h)
      · refine ite2 (fun h => absurd (V.str.inj (of_decide_eq_true h)) (by decide +kernel)) (fun _ => fin2 _ _ ⟨?_, rfl⟩)
        rw [show dual "or" = "and" by decide +kernel]
        rfl
    rintro σ H' ⟨rfl, rfl⟩
    refine ⟨_, rfl, rfl, _, rfl, ite2 (fun _ => ?_) (fun _ => ?_)⟩
    · -- turned about
      refine ⟨_, rfl, _, rfl, b, us, rfl, hb, fun p np => ⟨len2, fun t nt => ?_⟩⟩
      have s1 : Stp [] H' (upd H' p (.tup us.reverse)) := Stp.new np _
      refine k (.ref t) (manyD wd ds.reverse) _ (s1.new' nt) ⟨two_up nt (.tup (SqT.of upd_same) (by rw [List.length_reverse]; omega) (rl.rev.stp s1 Lsts.nil)) lzw, Fin.many hw fun d m => fin d (List.mem_reverse.mp m), ?_, ?_, p_rev hw ds⟩
      · rw [wt_many, wt_many, wtL_rev]; omega
      · have := depL_sub (as := ds.reverse) (bs := ds) fun d m => List.mem_reverse.mp m
        rw [dep_many, dep_many]; omega
    refine ⟨_, rfl, rfl, _, rfl, ite2 (fun _ => ?_) (fun _ => ?_)⟩
    · -- not over the other
      refine ⟨_, rfl, _, rfl, b, rfl, ⟨_, hb⟩, fun L nL => ?_⟩
      refine lc_mapT9 (ds := ds.map notD) nL hb (by rw [List.length_map, lu]) (by omega) (fun j x dd H3 hx hdd S3 Q2 q => ?_) fun ws H3 S3 h3 r3 => ?_
      · obtain ⟨e, he, re⟩ := rl.get hx
        rw [List.getElem?_map, he] at hdd
        cases hdd
        exact ⟨rfl, _, rfl, len2, fun t nt => q _ _ (Stp.new nt []) (two_up nt (re.stp S3 Lsts.nil) (lz9 (by simp)))⟩
      have lws : ws.length = ds.length := by rw [r3.len, List.length_map]
      refine ⟨L, _, rfl, .inl ⟨SqL.of h3, fun t nt => ⟨len2, fun t2 n2 => ⟨len2, fun t3 n3 => ?_⟩⟩⟩⟩
      refine k (.ref t3) (notD (manyD (dual wd) (ds.map notD))) _ (((S3.new' nt).new' n2).new' n3) ⟨two_up n3 (many_up nt n2 r3 lzd (by omega)) (lz9 (by simp)), (Fin.many hd fun d m => ?_).not, ?_, ?_, p_dual hw ds⟩
      · obtain ⟨e, me, rfl⟩ := List.mem_map.mp m
        exact (fin e me).not
      · rw [wt_not, wt_many, wt_many, wt_nots]; omega
      · have := depL_nots ds
        rw [dep_not, dep_many, dep_many]; omega
    refine ⟨_, rfl, rfl, _, rfl, ite2 (fun _ => ?_) (fun _ => ?_)⟩
    · -- without what says nothing
      obtain ⟨bw, ebw⟩ : ∃ bw, bw = decide (wd = "and") := ⟨_, rfl⟩
      obtain ⟨g, eg⟩ : ∃ g : Dt → Bool, g = fun d => !PyData.eqv (pyD d) (.tuple [.str "say", .bool bw]) := ⟨_, rfl⟩
      refine ⟨_, rfl, _, rfl, b, rfl, ⟨_, hb⟩, fun L nL => ?_⟩
      refine lc_tup (a := b) (xs := us) (fun i H2 => ∃ ws, H2 L = some (.lst ws) ∧ RpL K H2 ws ((ds.take i).filter g) ∧ Stp [] H' H2) ⟨[], upd_same, .nil, Stp.new nL _⟩ (fun i H2 _ ⟨_, _, _, S⟩ => sqt_stp S Lsts.nil hb) ?_ ?_
      · rintro i x H2 hi ⟨ws, hL, rw2, S⟩
        obtain ⟨e, he, re⟩ := rl.get hi
        have mem := List.mem_of_getElem? he
        have fe := fin e mem
        refine ⟨rfl, _, rfl, _, rfl, rfl, len2, fun t nt => ?_⟩
        have s1 : Stp [] H2 (upd H2 t (.tup [.str "say", .bl (decide (V.str wd = V.str "and"))])) := Stp.new nt _
        have ht : (upd H2 t (.tup [.str "say", .bl (decide (V.str wd = V.str "and"))])) t = some (.tup [.str "say", .bl bw]) := by
          rw [upd_same, ebw, show decide (V.str wd = V.str "and") = decide (wd = "and") from decide_eq_decide.mpr ⟨fun h => V.str.inj h, fun h => by rw [h]⟩]
        generalize upd H2 t (.tup [.str "say", .bl (decide (V.str wd = V.str "and"))]) = H3 at *
        have re3 := (re.stp S Lsts.nil).stp s1 Lsts.nil
        have hL3 := s1.kp _ _ nn hL
        have gd := gd_flt fe.fl (tsh_mono (by decide) e fe.ts)
        have de : e.dep ≤ 64 := by have := Dt.dep_mem mem; omega
        refine ⟨pyD e, .tuple [.str "say", .bool bw], rp_dp e gd re3, .tup (SqT.of ht) (.cons (.str _) (.cons (.bl _) .nil)), shaped_flt fe.fl de, ?_, ?_⟩
        · cases bw <;> decide +kernel
        have tk : (ds.take (i + 1)).filter g = (ds.take i).filter g ++ (if g e = true then [e] else []) := by
          rw [List.take_add_one, he, List.filter_append]
          congr 1
          show List.filter g [e] = _
          rw [List.filter_cons]
          rfl
        have eqg : (!PyData.eqv (pyD e) (.tuple [.str "say", .bool bw])) = g e := by rw [eg]
        rw [eqg]
        have lw2 : ws.length < sizeLine := by
          have h1 := rw2.len
          have h2 := List.length_filter_le g (ds.take i)
          rw [List.length_take] at h2
          exact Nat.lt_of_le_of_lt (show ws.length ≤ 2000 by omega) (by decide)
        refine ⟨_, rfl, ite2 (fun h => ?_) (fun h => ?_)⟩
        · refine ⟨_, rfl, ws, hL3, lw2, ws ++ [x], upd_same, ?_, (S.trans s1).mut nL⟩
          rw [tk, if_pos h]
          have s4 : Stp [L] H3 (upd H3 L (.lst (ws ++ [x]))) := Stp.put (by simp)
          exact ((rw2.stp s1 Lsts.nil).stp s4 (.one hL3)).app (.cons (re3.stp s4 (.one hL3)) .nil)
        · refine ⟨ws, hL3, ?_, S.trans s1⟩
          rw [tk, if_neg h, List.append_nil]
          exact rw2.stp s1 Lsts.nil
      · rintro H2 ⟨ws, hL, rw2, S⟩
        rw [lu, List.take_length] at rw2
        have lws := rw2.len
        have lf := List.length_filter_le g ds
        refine ⟨L, _, rfl, .inl ⟨SqL.of hL, fun t nt => ⟨len2, fun t2 n2 => ?_⟩⟩⟩
        refine k (.ref t2) (manyD wd (ds.filter g)) _ ((S.new' nt).new' n2) ⟨many_up nt n2 rw2 lzw (by omega), Fin.many hw fun d m => fin d (List.mem_filter.mp m).1, ?_, ?_, p_drop hw ds g fun d md hg => ?_⟩
        · have := wtL_filter g ds
          rw [wt_many, wt_many]; omega
        · have := depL_sub (as := ds.filter g) (bs := ds) fun d m => (List.mem_filter.mp m).1
          rw [dep_many, dep_many]; omega
        · rw [eg] at hg
          rw [← ebw]
          exact say_eq (fin d md).fl (by simpa using hg)
    refine ⟨_, rfl, b, us, rfl, .inr hb, rfl, _, rfl, ite2 (fun h => ?_) (fun h => ?_)⟩
    · -- one part
      have l1 : us.length = 1 := by
        have := V.int.inj (of_decide_eq_true h)
        omega
      obtain ⟨v, d, rfl, rfl, r1⟩ := rl.one l1
      refine ⟨_, rfl, b, _, 0, v, rfl, rfl, hb, at0, ?_⟩
      refine k v d H' (Stp.refl _ _) ⟨r1, fin d List.mem_cons_self, ?_, ?_, p_one hw d⟩
      · rw [wt_many]; show _ ≤ 4 * (wtD d + 0 + 5) + 20; omega
      · rw [dep_many]
        have := Dt.dep_mem (ds := [d]) (d := d) List.mem_cons_self
        omega
    · -- put together
      refine ⟨_, rfl, _, rfl, 1, rfl, ?_⟩
      refine slA_use hb fun p1 H1 S1 h1 => ?_
      rw [show cutV us none (some 1) = _ from cut_upto 1] at h1
      refine ⟨_, rfl, _, rfl, 1, rfl, ?_⟩
      dsimp only
      refine nopart (slA_use (sqt_stp S1 Lsts.nil hb) fun p2 H2 S2 h2 => ?_)
      rw [show cutV us (some 1) none = _ from cut_from 1] at h2
      have S02 := S1.trans S2
      refine ⟨len2, fun t nt => ⟨len1, fun t2 n2 => ?_⟩⟩
      have s3 : Stp [] H2 (upd H2 t (.tup [.str wd, .ref p2])) := Stp.new nt _
      have r3 : Rp K (upd H2 t (.tup [.str wd, .ref p2])) (.ref t) (manyD wd (ds.drop 1)) := two_up nt (.tup h2 (by rw [List.length_drop]; omega) ((rl.drop 1).stp S02 Lsts.nil)) lzw
      have s4 : Stp [] (upd H2 t (.tup [.str wd, .ref p2])) (upd (upd H2 t (.tup [.str wd, .ref p2])) t2 (.tup [.ref t])) := Stp.new n2 _
      have s24 := s3.trans s4
      have r4 := r3.stp s4 Lsts.nil
      have ht2 : SqT K (upd (upd H2 t (.tup [.str wd, .ref p2])) t2 (.tup [.ref t])) t2 [.ref t] := SqT.of upd_same
      generalize upd (upd H2 t (.tup [.str wd, .ref p2])) t2 (.tup [.ref t]) = H4 at *
      have h14 := sqt_stp s24 Lsts.nil (sqt_stp S2 Lsts.nil h1)
      have S04 := S02.trans s24
      refine catT_use h14 ht2 (by rw [List.length_take]; simp; omega) fun p5 H5 S5 h5 => ⟨len2, fun t6 n6 => ?_⟩
      have r5 : RpL K H5 (us.take 1 ++ [.ref t]) (ds.take 1 ++ [manyD wd (ds.drop 1)]) := (((rl.take 1).stp S04 Lsts.nil).app (.cons r4 .nil)).stp S5 Lsts.nil
      have w1 : wtL ds = wtL (ds.take 1) + wtL (ds.drop 1) := by
        rw [← wtL_app', List.take_append_drop]
      refine k (.ref t6) (manyD wd (ds.take 1 ++ [manyD wd (ds.drop 1)])) _ ((S04.trans S5).new' n6) ⟨two_up n6 (.tup h5 (by rw [List.length_append, List.length_take]; simp; omega) r5) lzw, Fin.many hw fun d m => ?_, ?_, ?_, p_nest hw ds⟩
      · rcases List.mem_append.mp m with m | m
        · exact fin d (List.mem_of_mem_take m)
        · rw [List.mem_singleton.mp m]
          exact Fin.many hw fun e me => fin e (List.mem_of_mem_drop me)
      · rw [wt_many, wt_many, wtL_app']
        show wtL (ds.take 1) + (wtD (manyD wd (ds.drop 1)) + 0) + 5 ≤ _
        rw [wt_many]
        omega
      · have a := depL_sub (as := ds.take 1) (bs := ds) fun d m => List.mem_of_mem_take m
        have b := depL_sub (as := ds.drop 1) (bs := ds) fun d m => List.mem_of_mem_drop m
        have c : Dt.depL (ds.take 1 ++ [manyD wd (ds.drop 1)]) ≤ Dt.depL ds + 2 := Dt.depL_le fun d m => by
          rcases List.mem_append.mp m with m | m
          · have := Dt.dep_mem m; omega
          · rw [List.mem_singleton.mp m, dep_many]; omega
        rw [dep_many, dep_many]
        omega
/-! ### not written otherwise -/
theorem inV2 {x a b : Str} : inV (.str x) [.str a, .str b] = decide (x ∈ [a, b]) := inV_str x [a, b]
theorem inV4 {x a b c d : Str} : inV (.str x) [.str a, .str b, .str c, .str d] = decide (x ∈ [a, b, c, d]) := inV_str x [a, b, c, d]
def spNSame (K : PySem.W.Frag) : Sp := fun vs H Q _ => ∃ (v : V) (d : Dt) (way : Int), vs = [v, .int way] ∧ Rp K H v d ∧ Fin d ∧ wtD d ≤ 3000 ∧ ∀ v' d' H', Stp [] H H' → Rew K H' v' (notD d) d' → Q v' H'
theorem cl__law_not_same {f : Addr} {fd : FuncData} (D : Df K mg "_law_not_same" s__law_not_same ["part", "way"] f fd) (T : Nm mg) : Cl P w K mg base 1 "_law_not_same" s__law_not_same ["part", "way"] (spNSame K) := by
  refine D.cl sc__law_not_same (fun vs H Q E h => ?_) (fun cdv A outer s H vs Q E hr h => ?_)
  · obtain ⟨v, d, way, rfl, _⟩ := h
    rfl
  · obtain ⟨v, d, way, rfl, r, fin, wt, k⟩ := h
    refine ⟨_, (pss_cons (ps_if (pt_cmpR op_eq (pe_ix ix_tup (pv 0) pe_int (fun _ _ => rfl)) pe_str (by first | exact nomark _ | rfl)) (pss_one (ps_ret (pe_ix ix_tup (pv 0) pe_int (fun _ _ => rfl)))) pss_nil)
      (pss_cons (ps_if (pt_cmpR op_eq (pe_ix ix_tup (pv 0) pe_int (fun _ _ => rfl)) pe_str (by first | exact nomark _ | rfl)) (pss_one (ps_ret (pe_tup (pa_cons pe_str (pa_cons (pe_notT (pe_ix ix_tup (pv 0) pe_int (fun _ _ => rfl))) pa_nil))))) pss_nil)
      (pss_cons (ps_if (pt_cmpR op_in_seq (pe_ix ix_tup (pv 0) pe_int (fun _ _ => rfl)) (pe_tup (pa_cons pe_str (pa_cons pe_str pa_nil))) (by first | exact nomark _ | rfl)) (pss_one (ps_ret (pe_tup (pa_cons (pe_ifExp (pt_cmpR op_eq (pe_ix ix_tup (pv 0) pe_int (fun _ _ => rfl)) pe_str (by first | exact nomark _ | rfl)) pe_str pe_str) (pa_cons (pe_callTy call_tuple_of (by rfl) T.n_tuple (by decide +kernel) (pa_cons (pe_lc (own := [("each", 2)]) rfl sc__law_not_same.nd (pi_tup (pe_ix ix_tup (pv 0) pe_int (fun _ _ => rfl))) (blkOk_by (own := [("each", 2)]) (N := N__law_not_same) (sc := defScope s__law_not_same) (by decide +kernel)) (fun _ _ _ _ _ => (pg_name (i := 2) sc__law_not_same.nd rfl (by first | exact Or.inl rfl | exact Or.inr rfl))) (fun _ _ _ _ _ => pts_nil) (fun _ _ _ _ _ => (pe_tup (pa_cons pe_str (pa_cons (pv 2) pa_nil))))) pa_nil)) pa_nil))))) pss_nil)
      (pss_one (ps_ret (pe_ifExp (pt_cmpR op_eq (pv 1) pe_int (by first | exact nomark _ | rfl)) (pe_tup (pa_cons pe_str (pa_cons (pe_tup (pa_cons pe_str (pa_cons (pe_tup (pa_cons (pv 0) (pa_cons (pv 0) pa_nil))) pa_nil))) pa_nil))) (pe_tup (pa_cons pe_str (pa_cons (pe_tup (pa_cons pe_str (pa_cons (pe_tup (pa_cons (pv 0) pa_nil)) pa_nil))) pa_nil))))))))), ?_⟩
    have nn : ∀ {x : Addr}, x ∉ ([] : List Addr) := fun m => nomatch m
    have nf : ∀ {a b : Str}, a ≠ b → ¬ decide (V.str a = V.str b) = true := fun n h => n (V.str.inj (of_decide_eq_true h))
    have tf : ∀ {a : Str}, decide (V.str a = V.str a) = true := decide_eq_true rfl
    have len2 : (2 : Nat) ≤ sizeLine := by decide
    have len1 : (1 : Nat) ≤ sizeLine := by decide
    have lzn : ("not" : Str).cps.toList.length ≤ 100000 := lz9 (by simp)
    have dn := dep_not d
    have wn := wt_not d
    -- the last two ways
    have two : ∀ {H1 : Hp} {t1 t2 t3 : Addr} {vs : List V} {ds : List Dt} {z : Str}, H1 t1 = none → (upd H1 t1 (.tup vs)) t2 = none → (upd (upd H1 t1 (.tup vs)) t2 (.tup [.str z, .ref t1])) t3 = none → RpL K H1 vs ds → vs.length ≤ 100 → z = "and" ∨ z = "or" →
        Rp K (upd (upd (upd H1 t1 (.tup vs)) t2 (.tup [.str z, .ref t1])) t3 (.tup [.str "not", .ref t2])) (.ref t3) (notD (manyD z ds)) := fun {H1 t1 t2 t3 vs ds z} n1 n2 n3 r l hz =>
      two_up n3 (many_up n1 n2 r (lz9 (by rcases hz with rfl | rfl <;> simp)) (by omega)) lzn
    have fo2 : Fin (manyD "or" [d, d]) := Fin.many (.inr rfl) fun e m => by
      rcases List.mem_cons.mp m with rfl | m
      · exact fin
      · rw [List.mem_singleton.mp m]; exact fin
    have fa1 : Fin (manyD "and" [d]) := Fin.many (.inl rfl) fun e m => by rw [List.mem_singleton.mp m]; exact fin
    have w2 : wtD (notD (manyD "or" [d, d])) ≤ 4 * wtD (notD d) + 20 := by
      rw [wt_not, wt_many]; show wtD d + (wtD d + 0) + 5 + 3 ≤ _; omega
    have w1 : wtD (notD (manyD "and" [d])) ≤ 4 * wtD (notD d) + 20 := by
      rw [wt_not, wt_many]; show wtD d + 0 + 5 + 3 ≤ _; omega
    have d2 : (notD (manyD "or" [d, d])).dep ≤ (notD d).dep + 4 := by
      rw [dep_not, dep_many, dep_not]; show max d.dep (max d.dep 0) + 2 + 1 ≤ _; omega
    have d1 : (notD (manyD "and" [d])).dep ≤ (notD d).dep + 4 := by
      rw [dep_not, dep_many, dep_not]; show max d.dep 0 + 2 + 1 ≤ _; omega
    have dualf : ∀ {wd : Str} {ds : List Dt}, d = manyD wd ds → (wd = "and" ∨ wd = "or") → (∀ e ∈ ds, Fin e) → ∀ v' H', Stp [] H H' → Rp K H' v' (manyD (dual wd) (ds.map notD)) → Q v' H' := fun {wd ds} e hw fins v' H' S r' => by
      subst e
      have lw := len_wt fins
      have hd : dual wd = "and" ∨ dual wd = "or" := by rcases hw with rfl | rfl <;> decide +kernel
      refine k v' _ H' S ⟨r', Fin.many hd fun e m => ?_, ?_, ?_, n_dual hw ds⟩
      · obtain ⟨x, mx, rfl⟩ := List.mem_map.mp m
        exact (fins x mx).not
      · rw [wt_not, wt_many, wt_many, wt_nots]; omega
      · have := depL_nots ds
        rw [dep_not, dep_many, dep_many]; omega
    obtain ⟨fl, ts⟩ := id fin
    cases fl with
    | @not d0 f0 =>
      obtain ⟨a, u, rfl, hs, ru⟩ := rp2 r
      refine ⟨_, rfl, a, _, 0, _, rfl, rfl, hs, at0, rfl, _, rfl, ite2 (fun _ => ?_) (fun h => absurd tf h)⟩
      refine ⟨_, rfl, a, _, 1, u, rfl, rfl, hs, at1, ?_⟩
      refine k u d0 H (Stp.refl _ _) ⟨ru, ⟨f0, ts.2.1⟩, ?_, ?_, same_notnot d0⟩
      · have e1 := wt_not d0
        have e2 := wt_not (notD d0)
        show wtD d0 ≤ 4 * wtD (notD (notD d0)) + 20
        omega
      · have e1 := dep_not d0
        have e2 := dep_not (notD d0)
        show d0.dep ≤ (notD (notD d0)).dep + 4
        omega
    | say b =>
      obtain ⟨a, u, rfl, hs, ru⟩ := rp2 r
      cases ru
      refine ⟨_, rfl, a, _, 0, _, rfl, rfl, hs, at0, rfl, _, rfl, ite2 (fun h => absurd h (nf (by decide +kernel))) (fun _ => ?_)⟩
      refine ⟨_, rfl, a, _, 0, _, rfl, rfl, hs, at0, rfl, _, rfl, ite2 (fun _ => ?_) (fun h => absurd tf h)⟩
      refine ⟨_, rfl, a, _, 1, _, rfl, rfl, hs, at1, b, rfl, len2, fun t nt => ?_⟩
      exact k (.ref t) (sayD (!b)) _ (Stp.new nt []) ⟨two_up nt (.bl _) (lz9 (by simp)), Fin.say _, by show 4 ≤ _; omega, by show 1 ≤ _; omega, n_say b⟩
    | @many wd ds hw m =>
      obtain ⟨a, u, rfl, hs, ru⟩ := rp2 r
      have fins : ∀ e ∈ ds, Fin e := fun e me => ⟨m e me, tsh_mem (ds := ds) ts.2.1 me⟩
      have nw1 : wd ≠ "not" := by rcases hw with rfl | rfl <;> decide +kernel
      have nw2 : wd ≠ "say" := by rcases hw with rfl | rfl <;> decide +kernel
      refine ⟨_, rfl, a, _, 0, _, rfl, rfl, hs, at0, rfl, _, rfl, ite2 (fun h => absurd h (nf nw1)) (fun _ => ?_)⟩
      refine ⟨_, rfl, a, _, 0, _, rfl, rfl, hs, at0, rfl, _, rfl, ite2 (fun h => absurd h (nf nw2)) (fun _ => ?_)⟩
      refine ⟨_, rfl, a, _, 0, _, rfl, rfl, hs, at0, len2, fun t nt => ?_⟩
      refine ⟨t, _, rfl, .inr (SqT.of upd_same), rfl, rfl, _, rfl, ite2 (fun _ => ?_) (fun h => absurd (show _ = true by rw [inV2]; rcases hw with rfl | rfl <;> decide +kernel) h)⟩
      have S1 : Stp [] H (upd H t (.tup [.str "and", .str "or"])) := Stp.new nt _
      have hs1 := sqt_stp S1 Lsts.nil hs
      have ru1 := ru.stp S1 Lsts.nil
      generalize upd H t (.tup [.str "and", .str "or"]) = H1 at *
      cases ru1 with
      | tup hb hl rl =>
        rename_i b us
        have lu : us.length = ds.length := rl.len
        have wds : 3 * ds.length ≤ 3000 := by
          have := len_wt fins
          have := wt_many wd ds
          have e : wtD (manyD wd ds) ≤ 3000 := wt
          omega
        refine ⟨_, rfl, a, _, 0, _, rfl, rfl, hs1, at0, rfl, _, rfl, ?_⟩
        have body : ∀ (z : Str), z = dual wd → ∀ {L : Addr} {ws : List V} {H3 : Hp}, Stp [] H1 H3 → H3 L = some (.lst ws) → RpL K H3 ws (ds.map notD) → ∀ t2, H3 t2 = none → ∀ t3, (upd H3 t2 (.tup ws)) t3 = none → Q (.ref t3) (upd (upd H3 t2 (.tup ws)) t3 (.tup [.str z, .ref t2])) := fun z ez {L ws H3} S3 h3 r3 t2 n2 t3 n3 => by
          subst ez
          have lws : ws.length = ds.length := by rw [r3.len, List.length_map]
          exact dualf rfl hw fins _ _ (((S1.trans S3).new' n2).new' n3) (many_up n2 n3 r3 (by rcases hw with rfl | rfl <;> decide +kernel) (by omega))
        rcases hw with rfl | rfl
        · refine ite2 (fun _ => ?_) (fun h => absurd tf h)
          refine ⟨_, rfl, a, _, 1, _, rfl, rfl, hs1, at1, b, rfl, ⟨_, hb⟩, fun L nL => ?_⟩
          refine lc_mapT9 (ds := ds.map notD) nL hb (by rw [List.length_map, lu]) (by omega) (fun j x dd H3 hx hdd S3 Q2 q => ?_) fun ws H3 S3 h3 r3 => ?_
          · obtain ⟨e, he, re⟩ := rl.get hx
            rw [List.getElem?_map, he] at hdd
            cases hdd
            exact ⟨rfl, _, rfl, len2, fun t nt => q _ _ (Stp.new nt []) (two_up nt (re.stp S3 Lsts.nil) lzn)⟩
          refine ⟨L, _, rfl, .inl ⟨SqL.of h3, fun t2 n2 => ⟨len2, fun t3 n3 => body "or" rfl S3 h3 r3 t2 n2 t3 n3⟩⟩⟩
        · refine ite2 (fun h => absurd h (nf (by decide +kernel))) (fun _ => ?_)
          refine ⟨_, rfl, a, _, 1, _, rfl, rfl, hs1, at1, b, rfl, ⟨_, hb⟩, fun L nL => ?_⟩
          refine lc_mapT9 (ds := ds.map notD) nL hb (by rw [List.length_map, lu]) (by omega) (fun j x dd H3 hx hdd S3 Q2 q => ?_) fun ws H3 S3 h3 r3 => ?_
          · obtain ⟨e, he, re⟩ := rl.get hx
            rw [List.getElem?_map, he] at hdd
            cases hdd
            exact ⟨rfl, _, rfl, len2, fun t nt => q _ _ (Stp.new nt []) (two_up nt (re.stp S3 Lsts.nil) lzn)⟩
          refine ⟨L, _, rfl, .inl ⟨SqL.of h3, fun t2 n2 => ⟨len2, fun t3 n3 => body "and" (by decide +kernel) S3 h3 r3 t2 n2 t3 n3⟩⟩⟩
    | none =>
      obtain ⟨a, rfl, hs⟩ := rp1 r
      refine ⟨_, rfl, a, _, 0, _, rfl, rfl, hs, at0, rfl, _, rfl, ite2 (fun h => absurd h (nf (by decide +kernel))) (fun _ => ?_)⟩
      refine ⟨_, rfl, a, _, 0, _, rfl, rfl, hs, at0, rfl, _, rfl, ite2 (fun h => absurd h (nf (by decide +kernel))) (fun _ => ?_)⟩
      refine ⟨_, rfl, a, _, 0, _, rfl, rfl, hs, at0, len2, fun t nt => ?_⟩
      refine ⟨t, _, rfl, .inr (SqT.of upd_same), rfl, rfl, _, rfl, ite2 (fun h => absurd h (by rw [inV2]; decide +kernel)) (fun _ => ?_)⟩
      have S1 : Stp [] H (upd H t (.tup [.str "and", .str "or"])) := Stp.new nt _
      have r1 := r.stp S1 Lsts.nil
      generalize upd H t (.tup [.str "and", .str "or"]) = H1 at *
      refine ⟨_, rfl, rfl, _, rfl, ite2 (fun _ => ?_) (fun _ => ?_)⟩
      · refine ⟨_, rfl, _, rfl, len2, fun t1 n1 => ⟨len2, fun t2 n2 => ⟨len2, fun t3 n3 => ?_⟩⟩⟩
        exact k (.ref t3) _ _ (((S1.new' n1).new' n2).new' n3) ⟨two n1 n2 n3 (.cons r1 (.cons r1 .nil)) (by simp) (.inr rfl), fo2.not, w2, d2, n_two _⟩
      · refine ⟨_, rfl, len1, fun t1 n1 => ⟨len2, fun t2 n2 => ⟨len2, fun t3 n3 => ?_⟩⟩⟩
        exact k (.ref t3) _ _ (((S1.new' n1).new' n2).new' n3) ⟨two n1 n2 n3 (.cons r1 .nil) (by simp) (.inl rfl), fa1.not, w1, d1, n_one _⟩
    | @among ds m =>
      obtain ⟨a, u, rfl, hs, ru⟩ := rp2 r
      refine ⟨_, rfl, a, _, 0, _, rfl, rfl, hs, at0, rfl, _, rfl, ite2 (fun h => absurd h (nf (by decide +kernel))) (fun _ => ?_)⟩
      refine ⟨_, rfl, a, _, 0, _, rfl, rfl, hs, at0, rfl, _, rfl, ite2 (fun h => absurd h (nf (by decide +kernel))) (fun _ => ?_)⟩
      refine ⟨_, rfl, a, _, 0, _, rfl, rfl, hs, at0, len2, fun t nt => ?_⟩
      refine ⟨t, _, rfl, .inr (SqT.of upd_same), rfl, rfl, _, rfl, ite2 (fun h => absurd h (by rw [inV2]; decide +kernel)) (fun _ => ?_)⟩
      have S1 : Stp [] H (upd H t (.tup [.str "and", .str "or"])) := Stp.new nt _
      have r1 := r.stp S1 Lsts.nil
      generalize upd H t (.tup [.str "and", .str "or"]) = H1 at *
      refine ⟨_, rfl, rfl, _, rfl, ite2 (fun _ => ?_) (fun _ => ?_)⟩
      · refine ⟨_, rfl, _, rfl, len2, fun t1 n1 => ⟨len2, fun t2 n2 => ⟨len2, fun t3 n3 => ?_⟩⟩⟩
        exact k (.ref t3) _ _ (((S1.new' n1).new' n2).new' n3) ⟨two n1 n2 n3 (.cons r1 (.cons r1 .nil)) (by simp) (.inr rfl), fo2.not, w2, d2, n_two _⟩
      · refine ⟨_, rfl, len1, fun t1 n1 => ⟨len2, fun t2 n2 => ⟨len2, fun t3 n3 => ?_⟩⟩⟩
        exact k (.ref t3) _ _ (((S1.new' n1).new' n2).new' n3) ⟨two n1 n2 n3 (.cons r1 .nil) (by simp) (.inl rfl), fa1.not, w1, d1, n_one _⟩
    | @tx wd l hw ha =>
      obtain ⟨a, u, rfl, hs, ru⟩ := rp2 r
      refine ⟨_, rfl, a, _, 0, _, rfl, rfl, hs, at0, rfl, _, rfl, ite2 (fun h => absurd h (nf (by rcases hw with rfl | rfl | rfl | rfl <;> decide +kernel))) (fun _ => ?_)⟩
      refine ⟨_, rfl, a, _, 0, _, rfl, rfl, hs, at0, rfl, _, rfl, ite2 (fun h => absurd h (nf (by rcases hw with rfl | rfl | rfl | rfl <;> decide +kernel))) (fun _ => ?_)⟩
      refine ⟨_, rfl, a, _, 0, _, rfl, rfl, hs, at0, len2, fun t nt => ?_⟩
      refine ⟨t, _, rfl, .inr (SqT.of upd_same), rfl, rfl, _, rfl, ite2 (fun h => absurd h (by rw [inV2]; rcases hw with rfl | rfl | rfl | rfl <;> decide +kernel)) (fun _ => ?_)⟩
      have S1 : Stp [] H (upd H t (.tup [.str "and", .str "or"])) := Stp.new nt _
      have r1 := r.stp S1 Lsts.nil
      generalize upd H t (.tup [.str "and", .str "or"]) = H1 at *
      refine ⟨_, rfl, rfl, _, rfl, ite2 (fun _ => ?_) (fun _ => ?_)⟩
      · refine ⟨_, rfl, _, rfl, len2, fun t1 n1 => ⟨len2, fun t2 n2 => ⟨len2, fun t3 n3 => ?_⟩⟩⟩
        exact k (.ref t3) _ _ (((S1.new' n1).new' n2).new' n3) ⟨two n1 n2 n3 (.cons r1 (.cons r1 .nil)) (by simp) (.inr rfl), fo2.not, w2, d2, n_two _⟩
      · refine ⟨_, rfl, len1, fun t1 n1 => ⟨len2, fun t2 n2 => ⟨len2, fun t3 n3 => ?_⟩⟩⟩
        exact k (.ref t3) _ _ (((S1.new' n1).new' n2).new' n3) ⟨two n1 n2 n3 (.cons r1 .nil) (by simp) (.inl rfl), fa1.not, w1, d1, n_one _⟩
abbrev s__law_same : Stmt := topS 58
abbrev N__law_same : List Str := ["bag", "sieve", "word", "way"]
theorem sc__law_same : FnScope ["bag", "sieve", "word", "way"] ["bag", "sieve"] (defScope s__law_same) := ⟨rfl, rfl, rfl, by decide +kernel, rfl, by decide +kernel, by decide +kernel⟩


/-! ### a filter by its word -/
def hdW : Dt → Str
  | .tup (.str l :: _) => tx l
  | _ => ""
inductive HK (K : PySem.W.Frag) (H : Hp) : Dt → Str → List V → Prop
  | tx {wd : Str} {l : Txt} : (wd = "is" ∨ wd = "below" ∨ wd = "above" ∨ wd = "begins") → Abc l → l.length ≤ 12 → HK K H (txD wd l) wd [Tx l]
  | non : HK K H nonD "none" []
  | say (c : Bool) : HK K H (sayD c) "say" [.bl c]
  | not {d : Dt} {u : V} : Rp K H u d → Fin d → HK K H (notD d) "not" [u]
  | amg {ys : List Txt} {u : Addr} : SqT K H u (ys.map Tx) → (∀ y ∈ ys, Abc y ∧ y.length ≤ 12) → ys.length ≤ 100000 → HK K H (amgD ys) "among" [.ref u]
  | many {wd : Str} {ds : List Dt} {u : Addr} {us : List V} : (wd = "and" ∨ wd = "or") → SqT K H u us → RpL K H us ds → (∀ d ∈ ds, Fin d) → us.length ≤ 100000 → HK K H (manyD wd ds) wd [.ref u]
theorem head_of {H : Hp} {v : V} {d : Dt} (r : Rp K H v d) (f : Fin d) : ∃ a xs, v = .ref a ∧ SqT K H a (.str (hdW d) :: xs) ∧ HK K H d (hdW d) xs := by
  obtain ⟨fl, ts⟩ := f
  cases fl with
  | @tx wd l hw ha =>
    obtain ⟨a, u, rfl, hs, ru⟩ := rp2 r
    cases ru
    have e : hdW (.tup [.str wd.cps.toList, .str l]) = wd := lit_tx wd
    rw [e]
    exact ⟨a, _, rfl, hs, .tx hw ha ts.2.1⟩
  | none =>
    obtain ⟨a, rfl, hs⟩ := rp1 r
    exact ⟨a, _, rfl, by rw [show hdW (.tup [.str ("none" : Str).cps.toList]) = "none" from lit_tx "none"]; exact hs, by rw [show hdW (.tup [.str ("none" : Str).cps.toList]) = "none" from lit_tx "none"]; exact .non⟩
  | say b =>
    obtain ⟨a, u, rfl, hs, ru⟩ := rp2 r
    cases ru
    have e : hdW (.tup [.str ("say" : Str).cps.toList, .bl b]) = "say" := lit_tx "say"
    rw [e]
    exact ⟨a, _, rfl, hs, .say b⟩
  | @not d0 f0 =>
    obtain ⟨a, u, rfl, hs, ru⟩ := rp2 r
    have e : hdW (.tup [.str ("not" : Str).cps.toList, d0]) = "not" := lit_tx "not"
    rw [e]
    exact ⟨a, _, rfl, hs, .not ru ⟨f0, ts.2.1⟩⟩
  | @among ds m =>
    obtain ⟨a, u, rfl, hs, ru⟩ := rp2 r
    have e : hdW (.tup [.str ("among" : Str).cps.toList, .tup ds]) = "among" := lit_tx "among"
    rw [e]
    cases ru with
    | tup hb hl rl =>
      obtain ⟨ys, rfl⟩ := txs_of m
      have eu := rpl_strs rl
      subst eu
      refine ⟨a, _, rfl, hs, .amg hb (fun y my => ?_) (by rw [List.length_map] at hl; exact hl)⟩
      have mm : Dt.str y ∈ ys.map Dt.str := List.mem_map.mpr ⟨y, my, rfl⟩
      obtain ⟨l, q, al⟩ := m _ mm
      cases q
      exact ⟨al, tsh_mem (ds := ys.map Dt.str) ts.2.1 mm⟩
  | @many wd ds hw m =>
    obtain ⟨a, u, rfl, hs, ru⟩ := rp2 r
    have e : hdW (.tup [.str wd.cps.toList, .tup ds]) = wd := lit_tx wd
    rw [e]
    cases ru with
    | tup hb hl rl => exact ⟨a, _, rfl, hs, .many hw hb rl (fun d md => ⟨m d md, tsh_mem (ds := ds) ts.2.1 md⟩) hl⟩
theorem flt_dep {d : Dt} (f : Flt d) : 1 ≤ d.dep := by
  cases f <;> exact Nat.le_add_left 1 _
/-! ### _law_same -/
def spSameW (K : PySem.W.Frag) : Sp := fun vs H Q _ => ∃ (b : Addr) (v : V) (d : Dt) (n : Nat), vs = [.ref b, v] ∧ Bag H b n ∧ n + 10 < 2 ^ 30 ∧ Rp K H v d ∧ Fin d ∧ wtD d ≤ 1000 ∧ d.dep ≤ 50 ∧
  ∀ v' d' H', Stp [b] H H' → Bag H' b (n + 1) → Rew K H' v' d d' → Q v' H'
theorem flat_mem {α : Type} {xs : List α} {x : α} : ∀ {k : Nat}, x ∈ (List.replicate k xs).flatten → x ∈ xs
  | 0, m => by cases m
  | k + 1, m => by
    rw [List.replicate_succ, List.flatten_cons] at m
    rcases List.mem_append.mp m with m | m
    · exact m
    · exact flat_mem m
theorem rep_len {α : Type} (xs : List α) : ∀ k : Nat, (List.replicate k xs).flatten.length = k * xs.length
  | 0 => by simp
  | k + 1 => by
    rw [List.replicate_succ, List.flatten_cons, List.length_append, rep_len xs k, Nat.succ_mul, Nat.add_comm]
theorem rep_map {α β : Type} (f : α → β) (xs : List α) : ∀ k : Nat, (List.replicate k (xs.map f)).flatten = ((List.replicate k xs).flatten).map f
  | 0 => rfl
  | k + 1 => by
    rw [List.replicate_succ, List.replicate_succ, List.flatten_cons, List.flatten_cons, List.map_append, rep_map f xs k]
theorem cl__law_same {f : Addr} {fd : FuncData} (D : Df K mg "_law_same" s__law_same ["bag", "sieve"] f fd) (T : Nm mg) (c__law_draw : Cl P w K mg base 1 "_law_draw" s__law_draw ["bag", "upto"] spDraw) (c__law_said : Cl P w K mg base 2 "_law_said" s__law_said ["word", "text", "way"] (spSaid K))
    (c__law_parts_same : Cl P w K mg base 1 "_law_parts_same" s__law_parts_same ["word", "parts", "way"] (spPSame K)) (c__law_not_same : Cl P w K mg base 1 "_law_not_same" s__law_not_same ["part", "way"] (spNSame K)) : Cl P w K mg base 3 "_law_same" s__law_same ["bag", "sieve"] (spSameW K) := by
  refine D.cl sc__law_same (fun vs H Q E h => ?_) (fun cdv A outer s H vs Q E hr h => ?_)
  · obtain ⟨b, v, d, n, rfl, _⟩ := h
    rfl
  · obtain ⟨b, v, d, n, rfl, B, hn, r, fin, wt, dp, k⟩ := h
    refine ⟨_, (pss_cons (ps_par (i := 2) (j := 3) rfl sc__law_same.nd rfl rfl (by decide) rfl rfl (pa_cons (pe_ix ix_tup (pv 1) pe_int (fun _ _ => rfl)) (pa_cons (pe_cl c__law_draw hr (by omega) (pa_cons (pv 0) (pa_cons pe_int pa_nil))) pa_nil)) (by rfl))
      (pss_cons (ps_if (PW.pt (pw_and (pt_cmpR op_lt (pv 3) pe_int (by first | exact nomark _ | rfl)) (pw_and (pt_cmpR op_in_seq (pv 2) (pe_tup (pa_cons pe_str (pa_cons pe_str (pa_cons pe_str (pa_cons pe_str pa_nil))))) (by first | exact nomark _ | rfl)) (pw_and1 (pt_cmpR op_lt (pe_callB call_len_str (by rfl) T.n_len (by decide +kernel) (pa_cons (pe_ix ix_tup (pv 1) pe_int (fun _ _ => rfl)) pa_nil)) pe_int (by first | exact nomark _ | rfl)))))) (pss_one (ps_ret (pe_cl c__law_said hr (by omega) (pa_cons (pv 2) (pa_cons (pe_ix ix_tup (pv 1) pe_int (fun _ _ => rfl)) (pa_cons (pv 3) pa_nil)))))) pss_nil)
      (pss_cons (ps_if (PW.pt (pw_and (pt_cmpR op_lt (pv 3) pe_int (by first | exact nomark _ | rfl)) (pw_and1 (pt_cmpR op_eq (pv 2) pe_str (by first | exact nomark _ | rfl))))) (pss_one (ps_ret (pe_tup (pa_cons pe_str (pa_cons (pe_op op_catA (pe_slice sl_tupA (pe_ix ix_tup (pv 1) pe_int (fun _ _ => rfl)) (po_some pe_int) po_none) (pe_op Pv.op_repA (pe_slice sl_tupA (pe_ix ix_tup (pv 1) pe_int (fun _ _ => rfl)) po_none (po_some pe_int)) (pe_op op_add (pv 3) pe_int))) pa_nil))))) pss_nil)
      (pss_cons (ps_if (PW.pt (pw_and (pt_cmpR op_lt (pv 3) pe_int (by first | exact nomark _ | rfl)) (pw_and1 (pt_cmpR op_eq (pv 2) pe_str (by first | exact nomark _ | rfl))))) (pss_one (ps_ret (pe_ifExp (pt_truth (pe_ix ix_tup (pv 1) pe_int (fun _ _ => rfl)) (by intro _; rfl)) (pe_tup (pa_cons pe_str (pa_cons (pe_tup pa_nil) pa_nil))) (pe_tup (pa_cons pe_str (pa_cons (pe_tup pa_nil) pa_nil)))))) pss_nil)
      (pss_cons (ps_if (PW.pt (pw_and (pt_cmpR op_lt (pv 3) pe_int (by first | exact nomark _ | rfl)) (pw_and1 (pt_cmpR op_in_seq (pv 2) (pe_tup (pa_cons pe_str (pa_cons pe_str pa_nil))) (by first | exact nomark _ | rfl))))) (pss_one (ps_ret (pe_cl c__law_parts_same hr (by omega) (pa_cons (pv 2) (pa_cons (pe_ix ix_tup (pv 1) pe_int (fun _ _ => rfl)) (pa_cons (pv 3) pa_nil)))))) pss_nil)
      (pss_cons (ps_if (PW.pt (pw_and (pt_cmpR op_lt (pv 3) pe_int (by first | exact nomark _ | rfl)) (pw_and1 (pt_cmpR op_eq (pv 2) pe_str (by first | exact nomark _ | rfl))))) (pss_one (ps_ret (pe_cl c__law_not_same hr (by omega) (pa_cons (pe_ix ix_tup (pv 1) pe_int (fun _ _ => rfl)) (pa_cons (pv 3) pa_nil))))) pss_nil)
      (pss_cons (ps_if (pt_cmpR op_lt (pv 3) pe_int (by first | exact nomark _ | rfl)) (pss_one (ps_ret (pe_tup (pa_cons pe_str (pa_cons (pe_tup (pa_cons pe_str (pa_cons (pv 1) pa_nil))) pa_nil))))) pss_nil)
      (pss_cons (ps_if (pt_cmpR op_eq (pv 3) pe_int (by first | exact nomark _ | rfl)) (pss_one (ps_ret (pe_tup (pa_cons pe_str (pa_cons (pe_tup (pa_cons (pv 1) (pa_cons (pe_tup (pa_cons pe_str (pa_cons pe_bl pa_nil))) pa_nil))) pa_nil))))) pss_nil)
      (pss_one (ps_ret (pe_ifExp (pt_cmpR op_eq (pv 3) pe_int (by first | exact nomark _ | rfl)) (pe_tup (pa_cons pe_str (pa_cons (pe_tup (pa_cons (pe_tup (pa_cons pe_str (pa_cons pe_bl pa_nil))) (pa_cons (pv 1) pa_nil))) pa_nil))) (pe_tup (pa_cons pe_str (pa_cons (pe_tup (pa_cons (pv 1) (pa_cons (pe_tup (pa_cons pe_str (pa_cons (pe_tup (pa_cons (pv 1) (pa_cons (pe_tup (pa_cons pe_str pa_nil)) pa_nil))) pa_nil))) pa_nil))) pa_nil)))))))))))))), ?_⟩
    have nf : ∀ {a b : Str}, a ≠ b → ¬ decide (V.str a = V.str b) = true := fun n h => n (V.str.inj (of_decide_eq_true h))
    have tf : ∀ {a : Str}, decide (V.str a = V.str a) = true := decide_eq_true rfl
    have len1 : (1 : Nat) ≤ sizeLine := by decide
    have len2 : (2 : Nat) ≤ sizeLine := by decide
    have len4 : (4 : Nat) ≤ sizeLine := by decide
    have lzn : ("not" : Str).cps.toList.length ≤ 100000 := lz9 (by simp)
    obtain ⟨a, xs, rfl, hs, hk⟩ := head_of r fin
    refine ⟨_, rfl, a, _, 0, _, rfl, rfl, hs, at0, _, rfl, b, 8, n, rfl, B, by omega, by decide, by decide, fun way H1 w0 w1 o1 B1 => ?_⟩
    have lb : Lsts H [b] := Pv.bag_ls B
    have S1 : Stp [b] H H1 := o1.stp (List.mem_singleton.mpr rfl)
    refine ⟨_, _, rfl, ?_⟩
    dsimp only
    -- the state between the statements
    have rp : ∀ {H' : Hp}, Stp [b] H H' → Rp K H' (.ref a) d := fun s => r.stp s lb
    have hd : ∀ {H' : Hp}, Stp [b] H H' → ∃ xs, SqT K H' a (.str (hdW d) :: xs) ∧ HK K H' d (hdW d) xs := fun s => by
      obtain ⟨a', xs, e, h1, h2⟩ := head_of (rp s) fin
      cases e
      exact ⟨xs, h1, h2⟩
    obtain ⟨I, eI⟩ : ∃ I : L2.St → Hp → Prop, I = fun σ H' => σ = [some (.ref b), some (.ref a), some (.str (hdW d)), some (.int way)] ∧ Stp [b] H H' ∧ Bag H' b (n + 1) := ⟨_, rfl⟩
    have i1 : I [some (.ref b), some (.ref a), some (.str (hdW d)), some (.int way)] H1 := by rw [eI]; exact ⟨rfl, S1, B1⟩
    have iup : ∀ {H2 H3 : Hp}, I [some (.ref b), some (.ref a), some (.str (hdW d)), some (.int way)] H2 → Stp [] H2 H3 → I [some (.ref b), some (.ref a), some (.str (hdW d)), some (.int way)] H3 := fun {H2 H3} h s => by
      rw [eI] at h ⊢
      exact ⟨rfl, h.2.1.trans s.nil, h.2.2.kp s (fun m => nomatch m)⟩
    have out : ∀ {H2 H3 : Hp} {v' : V} {d' : Dt}, I [some (.ref b), some (.ref a), some (.str (hdW d)), some (.int way)] H2 → Stp [] H2 H3 → Rew K H3 v' d d' → Q v' H3 := fun {H2 H3 v' d'} h s rw' => by
      rw [eI] at h
      exact k v' d' H3 (h.2.1.trans s.nil) (h.2.2.kp s (fun m => nomatch m)) rw'
    have ist : ∀ {σ : L2.St} {H2 : Hp}, I σ H2 → σ = [some (.ref b), some (.ref a), some (.str (hdW d)), some (.int way)] ∧ Stp [b] H H2 := fun {σ H2} h => by
      rw [eI] at h
      exact ⟨h.1, h.2.1⟩
    -- said by other words
    refine seq_end I ?_ (fun fin2 => ?_)
    rotate_left
    · refine ⟨_, rfl, _, _, rfl, rfl, _, rfl, ite2 (fun _ => ?_) (fun _ => ite2 (fun h => nomatch h) (fun _ => fin2 _ _ i1))⟩
      refine ⟨_, rfl, len4, fun t nt => ?_⟩
      have s2 : Stp [] H1 (upd H1 t (.tup [.str "is", .str "below", .str "above", .str "begins"])) := Stp.new nt _
      refine ⟨t, _, rfl, .inr (SqT.of upd_same), rfl, rfl, _, rfl, ?_⟩
      have i2 := iup i1 s2
      generalize upd H1 t (.tup [.str "is", .str "below", .str "above", .str "begins"]) = H2 at *
      refine ite2 (fun h => ?_) (fun _ => ite2 (fun h => nomatch h) (fun _ => fin2 _ _ i2))
      obtain ⟨xs2, hs2, hk2⟩ := hd (ist i2).2
      have hin : hdW d ∈ (["is", "below", "above", "begins"] : List Str) := of_decide_eq_true (inV4.symm.trans h)
      generalize hdW d = W at *
      cases hk2 with
      | @tx wd l hw al ll =>
        refine ⟨_, rfl, a, _, 1, _, rfl, rfl, hs2, at1, tx l, rfl, szt (by omega), _, _, rfl, rfl, _, rfl, ite2 (fun h2 => ?_) (fun _ => fin2 _ _ i2)⟩
        have h2 : ((tx l).length : Int) < 12 := of_decide_eq_true h2
        rw [tx_len] at h2
        refine ⟨_, rfl, _, rfl, a, _, 1, _, rfl, rfl, hs2, at1, _, rfl, W, l, way, rfl, hw, al, by omega, fun v' d' H3 S3 rew => out i2 S3 rew⟩
      | non => exact absurd hin (by decide +kernel)
      | say c => exact absurd hin (by decide +kernel)
      | not _ _ => exact absurd hin (by decide +kernel)
      | amg _ _ _ => exact absurd hin (by decide +kernel)
      | many hw _ _ _ _ => exact absurd hin (by rcases hw with rfl | rfl <;> decide +kernel)
    rintro σ H2 i2
    obtain ⟨rfl, S2⟩ := ist i2
    -- among
    refine seq_end I ?_ (fun fin2 => ?_)
    rotate_left
    · refine ⟨_, rfl, _, _, rfl, rfl, _, rfl, ite2 (fun w4 => ?_) (fun _ => ite2 (fun h => nomatch h) (fun _ => fin2 _ _ i2))⟩
      have w4 : way < 4 := of_decide_eq_true w4
      refine ⟨_, rfl, rfl, _, rfl, ite2 (fun h => ?_) (fun _ => fin2 _ _ i2)⟩
      have hin : hdW d = "among" := V.str.inj (of_decide_eq_true h)
      obtain ⟨xs2, hs2, hk2⟩ := hd S2
      generalize hdW d = W at *
      cases hk2 with
      | @amg ys u hu oky ly =>
        have w1 := wt_amg ys
        have lm : (ys.map Tx).length ≤ 1000 := by rw [List.length_map]; omega
        refine ⟨_, rfl, a, _, 1, _, rfl, rfl, hs2, at1, 1, rfl, ?_⟩
        dsimp only
        refine nopart (slA_use hu fun p1 H3 S3 h3 => ?_)
        rw [show cutV (ys.map Tx) (some 1) none = _ from cut_from 1] at h3
        refine ⟨_, rfl, a, _, 1, _, rfl, rfl, sqt_stp S3 Lsts.nil hs2, at1, 1, rfl, ?_⟩
        refine slA_use (sqt_stp S3 Lsts.nil hu) fun p2 H4 S4 h4 => ?_
        rw [show cutV (ys.map Tx) none (some 1) = _ from cut_upto 1] at h4
        refine ⟨_, rfl, _, _, rfl, rfl, ?_⟩
        refine rep_use h4 (by omega) (by omega) (by rw [List.length_take]; omega) fun p3 H5 S5 h5 => ?_
        have S25 := (S3.trans S4).trans S5
        have l5 : (List.replicate (way + 1).toNat ((ys.map Tx).take 1)).flatten.length ≤ 4 := by
          rw [rep_len, List.length_take]
          have : (way + 1).toNat ≤ 4 := by omega
          have h9 : min 1 (ys.map Tx).length ≤ 1 := Nat.min_le_left _ _
          calc (way + 1).toNat * min 1 (ys.map Tx).length ≤ 4 * 1 := Nat.mul_le_mul this h9
            _ = 4 := rfl
        refine catT_use (sqt_stp (S4.trans S5) Lsts.nil h3) h5 (by rw [List.length_drop]; omega) fun p6 H6 S6 h6 => ⟨len2, fun t nt => ?_⟩
        rw [← List.map_drop, ← List.map_take, rep_map, ← List.map_append] at h6
        have l5' : (List.replicate (way + 1).toNat (ys.take 1)).flatten.length ≤ 4 := by
          rw [← List.map_take, rep_map, List.length_map] at l5
          exact l5
        refine out i2 ((S25.trans S6).new' nt) (d' := amgD (ys.drop 1 ++ (List.replicate (way + 1).toNat (ys.take 1)).flatten)) ⟨two_up nt (.tup h6 (by rw [List.length_map, List.length_append, List.length_drop]; omega) (RpL.strs fun l m => ?_)) (lz9 (by simp)), Fin.amg fun y m => ?_, ?_, ?_, s_amg fun x => ?_⟩
        · rcases List.mem_append.mp m with m | m
          · have := (oky l (List.mem_of_mem_drop m)).2; omega
          · have := (oky l (List.mem_of_mem_take (flat_mem m))).2; omega
        · rcases List.mem_append.mp m with m | m
          · exact oky y (List.mem_of_mem_drop m)
          · exact oky y (List.mem_of_mem_take (flat_mem m))
        · rw [wt_amg, wt_amg, List.length_append, List.length_drop]
          omega
        · rw [dep_amg, dep_amg]; decide
        · rw [List.mem_append]
          constructor
          · rintro (m | m)
            · exact List.mem_of_mem_drop m
            · exact List.mem_of_mem_take (flat_mem m)
          · intro m
            rw [← List.take_append_drop 1 ys] at m
            rcases List.mem_append.mp m with m | m
            · right
              obtain ⟨j, hj⟩ : ∃ j, (way + 1).toNat = j + 1 := ⟨way.toNat, by omega⟩
              rw [hj, List.replicate_succ, List.flatten_cons]
              exact List.mem_append_left _ m
            · exact .inl m
      | tx hw _ _ => exact absurd hin (by rcases hw with rfl | rfl | rfl | rfl <;> decide +kernel)
      | non => exact absurd hin (by decide +kernel)
      | say c => exact absurd hin (by decide +kernel)
      | not _ _ => exact absurd hin (by decide +kernel)
      | many hw _ _ _ _ => exact absurd hin (by rcases hw with rfl | rfl <;> decide +kernel)
    rintro σ H3 i3
    obtain ⟨rfl, S3⟩ := ist i3
    -- say
    refine seq_end I ?_ (fun fin2 => ?_)
    rotate_left
    · refine ⟨_, rfl, _, _, rfl, rfl, _, rfl, ite2 (fun w4 => ?_) (fun _ => ite2 (fun h => nomatch h) (fun _ => fin2 _ _ i3))⟩
      refine ⟨_, rfl, rfl, _, rfl, ite2 (fun h => ?_) (fun _ => fin2 _ _ i3)⟩
      have hin : hdW d = "say" := V.str.inj (of_decide_eq_true h)
      obtain ⟨xs2, hs2, hk2⟩ := hd S3
      generalize hdW d = W at *
      cases hk2 with
      | say c =>
        refine ⟨_, rfl, a, _, 1, _, rfl, rfl, hs2, at1, c, rfl, ?_⟩
        cases c with
        | true =>
          refine ite2 (fun _ => ?_) (fun h => absurd rfl h)
          refine ⟨Nat.zero_le _, fun t nt => ⟨len2, fun t2 n2 => ?_⟩⟩
          exact out i3 ((Stp.new nt []).new' n2) (d' := manyD "and" []) ⟨many_up nt n2 .nil (lz9 (by simp)) (by simp), Fin.many (.inl rfl) (fun d m => (nomatch m)), by decide +kernel, by decide +kernel, s_true⟩
        | false =>
          refine ite2 (fun h => absurd h (by decide)) (fun _ => ?_)
          refine ⟨Nat.zero_le _, fun t nt => ⟨len2, fun t2 n2 => ?_⟩⟩
          exact out i3 ((Stp.new nt []).new' n2) (d' := manyD "or" []) ⟨many_up nt n2 .nil (lz9 (by simp)) (by simp), Fin.many (.inr rfl) (fun d m => (nomatch m)), by decide +kernel, by decide +kernel, s_false⟩
      | tx hw _ _ => exact absurd hin (by rcases hw with rfl | rfl | rfl | rfl <;> decide +kernel)
      | non => exact absurd hin (by decide +kernel)
      | amg _ _ _ => exact absurd hin (by decide +kernel)
      | not _ _ => exact absurd hin (by decide +kernel)
      | many hw _ _ _ _ => exact absurd hin (by rcases hw with rfl | rfl <;> decide +kernel)
    rintro σ H4 i4
    obtain ⟨rfl, S4⟩ := ist i4
    -- and, or
    refine seq_end I ?_ (fun fin2 => ?_)
    rotate_left
    · refine ⟨_, rfl, _, _, rfl, rfl, _, rfl, ite2 (fun w4 => ?_) (fun _ => ite2 (fun h => nomatch h) (fun _ => fin2 _ _ i4))⟩
      refine ⟨_, rfl, len2, fun t nt => ?_⟩
      have s2 : Stp [] H4 (upd H4 t (.tup [.str "and", .str "or"])) := Stp.new nt _
      refine ⟨t, _, rfl, .inr (SqT.of upd_same), rfl, rfl, _, rfl, ?_⟩
      have i5 := iup i4 s2
      generalize upd H4 t (.tup [.str "and", .str "or"]) = H5 at *
      refine ite2 (fun h => ?_) (fun _ => fin2 _ _ i5)
      have hin : hdW d ∈ (["and", "or"] : List Str) := of_decide_eq_true (inV2.symm.trans h)
      obtain ⟨xs2, hs2, hk2⟩ := hd (ist i5).2
      generalize hdW d = W at *
      cases hk2 with
      | @many wd ds u us hw hu rl fins lu =>
        have := len_wt fins
        have := wt_many W ds
        have lus : us.length = ds.length := rl.len
        exact ⟨_, rfl, _, rfl, a, _, 1, _, rfl, rfl, hs2, at1, _, rfl, W, u, way, us, ds, rfl, hw, hu, rl, fins, by omega, by omega, fun v' d' H6 S6 rew => out i5 S6 rew⟩
      | tx hw _ _ => exact absurd hin (by rcases hw with rfl | rfl | rfl | rfl <;> decide +kernel)
      | non => exact absurd hin (by decide +kernel)
      | amg _ _ _ => exact absurd hin (by decide +kernel)
      | not _ _ => exact absurd hin (by decide +kernel)
      | say c => exact absurd hin (by decide +kernel)
    rintro σ H5 i5
    obtain ⟨rfl, S5⟩ := ist i5
    -- not
    refine seq_end I ?_ (fun fin2 => ?_)
    rotate_left
    · refine ⟨_, rfl, _, _, rfl, rfl, _, rfl, ite2 (fun w4 => ?_) (fun _ => ite2 (fun h => nomatch h) (fun _ => fin2 _ _ i5))⟩
      refine ⟨_, rfl, rfl, _, rfl, ite2 (fun h => ?_) (fun _ => fin2 _ _ i5)⟩
      have hin : hdW d = "not" := V.str.inj (of_decide_eq_true h)
      obtain ⟨xs2, hs2, hk2⟩ := hd S5
      generalize hdW d = W at *
      cases hk2 with
      | @not d0 u ru fin0 =>
        have := wt_not d0
        exact ⟨_, rfl, a, _, 1, _, rfl, rfl, hs2, at1, _, rfl, u, d0, way, rfl, ru, fin0, by omega, fun v' d' H6 S6 rew => out i5 S6 rew⟩
      | tx hw _ _ => exact absurd hin (by rcases hw with rfl | rfl | rfl | rfl <;> decide +kernel)
      | non => exact absurd hin (by decide +kernel)
      | amg _ _ _ => exact absurd hin (by decide +kernel)
      | many hw _ _ _ _ => exact absurd hin (by rcases hw with rfl | rfl <;> decide +kernel)
      | say c => exact absurd hin (by decide +kernel)
    rintro σ H6 i6
    obtain ⟨rfl, S6⟩ := ist i6
    have r6 := rp S6
    refine ⟨_, rfl, _, _, rfl, rfl, _, rfl, ite2 (fun _ => ?_) (fun _ => ?_)⟩
    · -- not not
      refine ⟨_, rfl, len2, fun t nt => ⟨len2, fun t2 n2 => ?_⟩⟩
      refine out i6 ((Stp.new nt []).new' n2) (d' := notD (notD d)) ⟨two_up n2 (two_up nt r6 lzn) lzn, fin.not.not, ?_, ?_, same_nn d⟩
      · rw [wt_not, wt_not]; omega
      · rw [dep_not, dep_not]; omega
    refine ⟨_, rfl, rfl, _, rfl, ite2 (fun _ => ?_) (fun _ => ?_)⟩
    · -- or nothing
      refine ⟨_, rfl, len2, fun t nt => ⟨len2, fun t2 n2 => ⟨len2, fun t3 n3 => ?_⟩⟩⟩
      have s1 : Stp [] H6 (upd H6 t (.tup [.str "say", .bl false])) := Stp.new nt _
      refine out i6 ((s1.new' n2).new' n3) (d' := manyD "or" [d, sayD false]) ⟨many_up n2 n3 (.cons (r6.stp s1 Lsts.nil) (.cons (two_up nt (.bl _) (lz9 (by simp))) .nil)) (lz9 (by simp)) (by simp), Fin.many (.inr rfl) fun e m => ?_, ?_, ?_, s_or d⟩
      · rcases List.mem_cons.mp m with rfl | m
        · exact fin
        · rw [List.mem_singleton.mp m]; exact Fin.say _
      · rw [wt_many]; show wtD d + (4 + 0) + 5 ≤ _; omega
      · rw [dep_many]; show max d.dep (max 1 0) + 2 ≤ _; omega
    refine ⟨_, rfl, rfl, _, rfl, ite2 (fun _ => ?_) (fun _ => ?_)⟩
    · -- and all
      refine ⟨len2, fun t nt => ⟨_, rfl, len2, fun t2 n2 => ⟨len2, fun t3 n3 => ?_⟩⟩⟩
      have s1 : Stp [] H6 (upd H6 t (.tup [.str "say", .bl true])) := Stp.new nt _
      refine out i6 ((s1.new' n2).new' n3) (d' := manyD "and" [sayD true, d]) ⟨many_up n2 n3 (.cons (two_up nt (.bl _) (lz9 (by simp))) (.cons (r6.stp s1 Lsts.nil) .nil)) (lz9 (by simp)) (by simp), Fin.many (.inl rfl) fun e m => ?_, ?_, ?_, s_and d⟩
      · rcases List.mem_cons.mp m with rfl | m
        · exact Fin.say _
        · rw [List.mem_singleton.mp m]; exact fin
      · rw [wt_many]; show 4 + (wtD d + 0) + 5 ≤ _; omega
      · rw [dep_many]; show max 1 (max d.dep 0) + 2 ≤ _; omega
    · -- or it and none
      refine ⟨_, rfl, _, rfl, len1, fun t nt => ⟨len2, fun t2 n2 => ⟨len2, fun t3 n3 => ⟨len2, fun t4 n4 => ⟨len2, fun t5 n5 => ?_⟩⟩⟩⟩⟩
      have s1 : Stp [] H6 (upd H6 t (.tup [.str "none"])) := Stp.new nt _
      have rn : Rp K (upd H6 t (.tup [.str "none"])) (.ref t) nonD := .tup (SqT.of upd_same) (by simp) (.cons (Rp.lit _ (lz9 (by simp))) .nil)
      have rm := many_up n2 n3 (RpL.cons (r6.stp s1 Lsts.nil) (.cons rn .nil)) (lz9 (s := "and") (by simp)) (by simp)
      have s3 := (s1.new' n2).new' (o := .tup [.str "and", .ref t2]) n3
      refine out i6 ((s3.new' n4).new' n5) (d' := manyD "or" [d, manyD "and" [d, nonD]]) ⟨many_up n4 n5 (.cons (r6.stp s3 Lsts.nil) (.cons rm .nil)) (lz9 (by simp)) (by simp), Fin.many (.inr rfl) fun e m => ?_, ?_, ?_, s_long d⟩
      · rcases List.mem_cons.mp m with rfl | m
        · exact fin
        · rw [List.mem_singleton.mp m]
          refine Fin.many (.inl rfl) fun e m => ?_
          rcases List.mem_cons.mp m with rfl | m
          · exact fin
          · rw [List.mem_singleton.mp m]; exact Fin.non
      · rw [wt_many]; show wtD d + (wtD (manyD "and" [d, nonD]) + 0) + 5 ≤ _
        rw [wt_many]; show wtD d + (wtD d + (3 + 0) + 5 + 0) + 5 ≤ _
        omega
      · have := flt_dep fin.fl
        rw [dep_many]; show max d.dep (max (manyD "and" [d, nonD]).dep 0) + 2 ≤ _
        rw [dep_many]; show max d.dep (max (max d.dep (max 1 0) + 2) 0) + 2 ≤ _
        omega
abbrev s__law_rewritten : Stmt := topS 59
abbrev N__law_rewritten : List Str := ["bag", "sieve", "at", "part"]
theorem sc__law_rewritten : FnScope ["bag", "sieve", "at", "part"] ["bag", "sieve"] (defScope s__law_rewritten) := ⟨rfl, rfl, rfl, by decide +kernel, rfl, by decide +kernel, by decide +kernel⟩

/-! ### _law_rewritten -/
theorem at_split {α : Type} {xs : List α} {j : Nat} {x : α} (h : xs[j]? = some x) : xs = xs.take j ++ x :: xs.drop (j + 1) := by
  obtain ⟨h1, h2⟩ := List.getElem?_eq_some_iff.mp h
  rw [← h2, ← List.drop_eq_getElem_cons h1, List.take_append_drop]
theorem wtL_cons (d : Dt) (ds : List Dt) : wtL (d :: ds) = wtD d + wtL ds := rfl
/-- one part replaced -/
theorem Rew.at {wd : Str} (hw : wd = "and" ∨ wd = "or") {ds : List Dt} {j : Nat} {d d' : Dt} (h : ds[j]? = some d) (fins : ∀ e ∈ ds, Fin e) {H : Hp} {u v : V} (r : Rew K H u d d') (rv : Rp K H v (manyD wd (ds.take j ++ d' :: ds.drop (j + 1)))) : Rew K H v (manyD wd ds) (manyD wd (ds.take j ++ d' :: ds.drop (j + 1))) := by
  have e := at_split h
  have w1 : wtL ds = wtL (ds.take j) + (wtD d + wtL (ds.drop (j + 1))) := by conv => lhs; rw [e]
                                                                             rw [wtL_app', wtL_cons]
  have mem := List.mem_of_getElem? h
  refine ⟨rv, Fin.many hw fun x m => ?_, ?_, ?_, same_many hw fun t ht => ?_⟩
  · rcases List.mem_append.mp m with m | m
    · exact fins x (List.mem_of_mem_take m)
    · rcases List.mem_cons.mp m with rfl | m
      · exact r.fi
      · exact fins x (List.mem_of_mem_drop m)
  · have := r.wt
    rw [wt_many, wt_many, wtL_app', wtL_cons]
    omega
  · have c : Dt.depL (ds.take j ++ d' :: ds.drop (j + 1)) ≤ Dt.depL ds + 4 := Dt.depL_le fun x m => by
      rcases List.mem_append.mp m with m | m
      · have := Dt.dep_mem (List.mem_of_mem_take m); omega
      · rcases List.mem_cons.mp m with rfl | m
        · have := Dt.dep_mem mem
          have := r.dp
          omega
        · have := Dt.dep_mem (List.mem_of_mem_drop m); omega
    rw [dep_many, dep_many]
    omega
  · conv => rhs; rw [e]
    rw [List.map_append, List.map_append, List.map_cons, List.map_cons, r.sm t ht]
theorem Rew.notd {d d' : Dt} {H : Hp} {u v : V} (r : Rew K H u d d') (rv : Rp K H v (notD d')) : Rew K H v (notD d) (notD d') := by
  refine ⟨rv, r.fi.not, ?_, ?_, r.sm.not⟩
  · have := r.wt; rw [wt_not, wt_not]; omega
  · have := r.dp; rw [dep_not, dep_not]; omega
theorem Rew.up {d d' : Dt} {H H' : Hp} {v : V} (r : Rew K H v d d') (s : Stp [] H H') : Rew K H' v d d' := ⟨r.rp.stp s Lsts.nil, r.fi, r.wt, r.dp, r.sm⟩
theorem parts_dp {H : Hp} {u : Addr} {us : List V} {ds : List Dt} (hu : SqT K H u us) (rl : RpL K H us ds) (fins : ∀ e ∈ ds, Fin e) : Dp K H (.ref u) (.tuple (pyL ds)) :=
  .tup hu (rps_dp ds (gdL_of fun d m => gd_flt (fins d m).fl (tsh_mono (by decide) d (fins d m).ts)) rl)
theorem shaped_parts {ds : List Dt} (fins : ∀ e ∈ ds, Fin e) (dp : Dt.depL ds ≤ 60) : SeqAt.shaped (.tuple (pyL ds)) = true := by
  have h1 : PyData.canLay0 (.tuple (pyL ds)) = true := lay_all (f := fun d => d ∈ ds) (fun d m => lay_flt (fins d m).fl) fun d m => m
  have h2 := deps_py ds
  have e : PyData.depth (.tuple (pyL ds)) = PyData.depthAll (pyL ds) + 1 := rfl
  unfold SeqAt.shaped
  rw [h1, e, decide_eq_true (by omega)]
  rfl
theorem parts_ne (ds : List Dt) : (!PyData.eqv (.tuple (pyL ds)) (.tuple [])) = !ds.isEmpty := by
  cases ds with
  | nil => simp [pyL, PyData.eqv, PyData.eqvAll]
  | cons d ds => simp [pyL, PyData.eqv, PyData.eqvAll]
def spRewr (K : PySem.W.Frag) (n : Nat) : Sp := fun vs H Q _ => ∃ (b : Addr) (v : V) (d : Dt) (m : Nat), vs = [.ref b, v] ∧ Bag H b m ∧ m + 4 * n + 100 < 2 ^ 30 ∧ n ≤ 100 ∧ Rp K H v d ∧ Fin d ∧ wtD d ≤ 1000 ∧ d.dep ≤ 50 ∧ d.dep < n ∧
  ∀ v' d' H', Stp [b] H H' → Bag H' b (m + 4 * n) → Rew K H' v' d d' → Q v' H'
theorem rewr_step {f : Addr} {fd : FuncData} (D : Df K mg "_law_rewritten" s__law_rewritten ["bag", "sieve"] f fd) (T : Nm mg) {n m : Nat} (hm : 3 ≤ m) (c__law_draw : Cl P w K mg base 1 "_law_draw" s__law_draw ["bag", "upto"] spDraw) (c__law_same : Cl P w K mg base 3 "_law_same" s__law_same ["bag", "sieve"] (spSameW K))
    (c__law_rewritten : Cl P w K mg base m "_law_rewritten" s__law_rewritten ["bag", "sieve"] (spRewr K n)) : Cl P w K mg base (m + 1) "_law_rewritten" s__law_rewritten ["bag", "sieve"] (spRewr K (n + 1)) := by
  refine D.cl sc__law_rewritten (fun vs H Q E h => ?_) (fun cdv A outer s H vs Q E hr h => ?_)
  · obtain ⟨b, v, d, m, rfl, _⟩ := h
    rfl
  · obtain ⟨b, v, d, m0, rfl, B, hn, n100, r, fin, wt, dp50, dp, k⟩ := h
    refine ⟨_, (pss_cons (ps_if (PW.pt (pw_and (pt_cmpR op_eq (pe_ix ix_tup (pv 1) pe_int (fun _ _ => rfl)) pe_str (by first | exact nomark _ | rfl)) (pw_and1 (pt_cmpR op_eq (pe_cl c__law_draw hr (by omega) (pa_cons (pv 0) (pa_cons pe_int pa_nil))) pe_int (by first | exact nomark _ | rfl))))) (pss_one (ps_ret (pe_tup (pa_cons pe_str (pa_cons (pe_cl c__law_rewritten hr (by omega) (pa_cons (pv 0) (pa_cons (pe_ix ix_tup (pv 1) pe_int (fun _ _ => rfl)) pa_nil))) pa_nil))))) pss_nil)
      (pss_cons (ps_if (PW.pt (pw_and (pt_cmpR op_in_seq (pe_ix ix_tup (pv 1) pe_int (fun _ _ => rfl)) (pe_tup (pa_cons pe_str (pa_cons pe_str pa_nil))) (by first | exact nomark _ | rfl)) (pw_and (pt_cmpR (op_neD hr.units) (pe_ix ix_tup (pv 1) pe_int (fun _ _ => rfl)) (pe_tup pa_nil) (by first | exact nomark _ | rfl)) (pw_and1 (pt_cmpR op_gt (pe_cl c__law_draw hr (by omega) (pa_cons (pv 0) (pa_cons pe_int pa_nil))) pe_int (by first | exact nomark _ | rfl)))))) (pss_cons (ps_set (i := 2) sc__law_rewritten.nd rfl (by first | exact Or.inl rfl | exact Or.inr rfl) (pe_cl c__law_draw hr (by omega) (pa_cons (pv 0) (pa_cons (pe_callB call_len_seq (by rfl) T.n_len (by decide +kernel) (pa_cons (pe_ix ix_tup (pv 1) pe_int (fun _ _ => rfl)) pa_nil)) pa_nil))))
      (pss_cons (ps_set (i := 3) sc__law_rewritten.nd rfl (by first | exact Or.inl rfl | exact Or.inr rfl) (pe_cl c__law_rewritten hr (by omega) (pa_cons (pv 0) (pa_cons (pe_ix ix_tup (pe_ix ix_tup (pv 1) pe_int (fun _ _ => rfl)) (pv 2) (fun _ _ => rfl)) pa_nil))))
      (pss_one (ps_ret (pe_tup (pa_cons (pe_ix ix_tup (pv 1) pe_int (fun _ _ => rfl)) (pa_cons (pe_op op_catA (pe_op op_catA (pe_slice sl_tupA (pe_ix ix_tup (pv 1) pe_int (fun _ _ => rfl)) po_none (po_some (pv 2))) (pe_tup (pa_cons (pv 3) pa_nil))) (pe_slice sl_tupA (pe_ix ix_tup (pv 1) pe_int (fun _ _ => rfl)) (po_some (pe_op op_add (pv 2) pe_int)) po_none)) pa_nil))))))) pss_nil)
      (pss_one (ps_ret (pe_cl c__law_same hr (by omega) (pa_cons (pv 0) (pa_cons (pv 1) pa_nil))))))), ?_⟩
    have one : b ∈ [b] := List.mem_singleton.mpr rfl
    have len1 : (1 : Nat) ≤ sizeLine := by decide
    have len2 : (2 : Nat) ≤ sizeLine := by decide
    have lzn : ("not" : Str).cps.toList.length ≤ 100000 := lz9 (by simp)
    have lb : Lsts H [b] := Pv.bag_ls B
    obtain ⟨a, xs, rfl, hs, hk⟩ := head_of r fin
    have rp : ∀ {H' : Hp}, Stp [b] H H' → Rp K H' (.ref a) d := fun s => r.stp s lb
    have hd : ∀ {H' : Hp}, Stp [b] H H' → ∃ xs, SqT K H' a (.str (hdW d) :: xs) ∧ HK K H' d (hdW d) xs := fun s => by
      obtain ⟨a', xs, e, h1, h2⟩ := head_of (rp s) fin
      cases e
      exact ⟨xs, h1, h2⟩
    -- not
    refine seq_end (fun σ H' => σ = [some (.ref b), some (.ref a), none, none] ∧ Stp [b] H H' ∧ Bag H' b (m0 + 1)) ?_ (fun fin2 => ?_)
    rotate_left
    · refine ⟨_, rfl, a, _, 0, _, rfl, rfl, hs, at0, rfl, _, rfl, ite2 (fun h => ?_) (fun _ => ite2 (fun h => nomatch h) (fun _ => fin2 _ _ ⟨rfl, Stp.refl _ _, B.mono (by omega)⟩))⟩
      have hin : hdW d = "not" := V.str.inj (of_decide_eq_true h)
      refine ⟨_, rfl, b, 2, m0, rfl, B, by omega, by decide, by decide, fun x H1 x0 x1 o1 B1 => ?_⟩
      have S1 : Stp [b] H H1 := o1.stp one
      refine ⟨rfl, _, rfl, ite2 (fun _ => ?_) (fun _ => fin2 _ _ ⟨rfl, S1, B1⟩)⟩
      obtain ⟨xs2, hs2, hk2⟩ := hd S1
      generalize hdW d = W at *
      cases hk2 with
      | @not d0 u ru fin0 =>
        have w0 := wt_not d0
        have dd0 := dep_not d0
        refine ⟨_, rfl, _, rfl, a, _, 1, _, rfl, rfl, hs2, at1, b, u, d0, m0 + 1, rfl, B1, by omega, by omega, ru, fin0, by omega, by omega, by omega, fun v' d' H2 S2 B2 rew => ⟨len2, fun t nt => ?_⟩⟩
        have st := Stp.new (o := .tup [.str "not", v']) nt [b]
        have B3 := B2.upd (o := .tup [.str "not", v']) (B2.ne nt)
        exact k (.ref t) (notD d') _ ((S1.trans S2).trans st) (B3.mono (by omega)) ((rew.up (Stp.new nt [])).notd (two_up nt rew.rp lzn))
      | tx hw _ _ => exact absurd hin (by rcases hw with rfl | rfl | rfl | rfl <;> decide +kernel)
      | non => exact absurd hin (by decide +kernel)
      | amg _ _ _ => exact absurd hin (by decide +kernel)
      | many hw _ _ _ _ => exact absurd hin (by rcases hw with rfl | rfl <;> decide +kernel)
      | say c => exact absurd hin (by decide +kernel)
    rintro σ H1 ⟨rfl, S1, B1⟩
    -- and, or
    refine seq_end (fun σ H' => ∃ x2 x3 : Option V, σ = [some (.ref b), some (.ref a), x2, x3] ∧ Stp [b] H H' ∧ Bag H' b (m0 + 2)) ?_ (fun fin2 => ?_)
    rotate_left
    · obtain ⟨xs2, hs2, hk2⟩ := hd S1
      refine ⟨_, rfl, a, _, 0, _, rfl, rfl, hs2, at0, len2, fun t nt => ?_⟩
      have s2 : Stp [] H1 (upd H1 t (.tup [.str "and", .str "or"])) := Stp.new nt _
      refine ⟨t, _, rfl, .inr (SqT.of upd_same), rfl, rfl, _, rfl, ?_⟩
      have B2 := B1.kp s2 (fun m => nomatch m)
      have S2 := S1.trans (s2.nil (S := [b]))
      generalize upd H1 t (.tup [.str "and", .str "or"]) = H2 at *
      refine ite2 (fun h => ?_) (fun _ => ite2 (fun h => nomatch h) (fun _ => fin2 _ _ ⟨_, _, rfl, S2, B2.mono (by omega)⟩))
      have hin : hdW d ∈ (["and", "or"] : List Str) := of_decide_eq_true (inV2.symm.trans h)
      obtain ⟨xs3, hs3, hk3⟩ := hd S2
      generalize hdW d = W at *
      cases hk3 with
      | @many wd ds u us hw hu rl fins lus =>
        have dm := dep_many W ds
        have wm := wt_many W ds
        have lds := len_wt fins
        have lu : us.length = ds.length := rl.len
        refine ⟨_, rfl, a, _, 1, _, rfl, rfl, hs3, at1, Nat.zero_le _, fun q nq => ?_⟩
        have s3 : Stp [] H2 (upd H2 q (.tup [])) := Stp.new nq _
        refine ⟨_, .tuple [], parts_dp (sqt_stp s3 Lsts.nil hu) (rl.stp s3 Lsts.nil) fins, .tup (SqT.of upd_same) .nil, shaped_parts fins (by omega), rfl, ?_⟩
        rw [parts_ne]
        have B3 := B2.kp s3 (fun m => nomatch m)
        have S3 := S2.trans (s3.nil (S := [b]))
        generalize upd H2 q (.tup []) = H3 at *
        refine ⟨_, rfl, ite2 (fun hne => ?_) (fun _ => ite2 (fun h => nomatch h) (fun _ => fin2 _ _ ⟨_, _, rfl, S3, B3.mono (by omega)⟩))⟩
        have pos : 0 < ds.length := by
          cases ds with
          | nil => exact absurd hne (by decide)
          | cons d ds => simp
        refine ⟨_, rfl, b, 3, m0 + 1, rfl, B3, by omega, by decide, by decide, fun x H4 x0 x1 o4 B4 => ?_⟩
        have S4 := S3.trans (o4.stp one)
        refine ⟨_, _, rfl, rfl, _, rfl, ite2 (fun _ => ?_) (fun _ => fin2 _ _ ⟨_, _, rfl, S4, B4⟩)⟩
        obtain ⟨xs5, hs5, hk5⟩ := hd S4
        have s34 : Stp [b] H2 H4 := (s3.nil (S := [b])).trans (o4.stp one)
        have lb2 : Lsts H2 [b] := Pv.bag_ls B2
        have hu4 := sqt_stp s34 lb2 hu
        have rl4 := rl.stp s34 lb2
        have hs4 := sqt_stp s34 lb2 hs3
        -- at
        refine ⟨_, rfl, _, rfl, a, _, 1, _, rfl, rfl, hs4, at1, u, us, rfl, .inr hu4, b, _, m0 + 2, rfl, B4, by omega, by omega, by omega, fun y H5 y0 y1 o5 B5 => ?_⟩
        obtain ⟨j, rfl⟩ := Int.eq_ofNat_of_zero_le y0
        have jl : j < us.length := by omega
        obtain ⟨x, hx⟩ : ∃ x, us[j]? = some x := ⟨us[j], List.getElem?_eq_getElem jl⟩
        have s45 : Stp [b] H4 H5 := o5.stp one
        have lb4 : Lsts H4 [b] := Pv.bag_ls B4
        have hu5 := sqt_stp s45 lb4 hu4
        have rl5 := rl4.stp s45 lb4
        have hs55 := sqt_stp s45 lb4 hs4
        obtain ⟨e, he, re⟩ := rl5.get hx
        have mem := List.mem_of_getElem? he
        have wme := wt_mem mem
        have dme := Dt.dep_mem mem
        have S5 := S4.trans s45
        refine ⟨_, rfl, _, rfl, a, _, 1, _, rfl, rfl, hs55, at1, _, rfl, u, us, (j : Int), x, rfl, rfl, hu5, atI_nat hx, b, x, e, m0 + 3, rfl, B5, by omega, by omega, re, fins e mem, by omega, by omega, by omega, fun v' d' H6 S6 B6 rew => ?_⟩
        have lb5 : Lsts H5 [b] := Pv.bag_ls B5
        have hu6 := sqt_stp S6 lb5 hu5
        have rl6 := rl5.stp S6 lb5
        have hs6 := sqt_stp S6 lb5 hs55
        -- the tuple
        refine ⟨_, rfl, a, _, 0, _, rfl, rfl, hs6, at0, ?_⟩
        refine ⟨_, rfl, a, _, 1, _, rfl, rfl, hs6, at1, _, rfl, (j : Int), rfl, ?_⟩
        refine slA_use hu6 fun p1 H7 S7 h7 => ?_
        rw [show cutV us none (some (j : Int)) = _ from cut_upto j] at h7
        refine ⟨_, rfl, len1, fun t1 n1 => ?_⟩
        have s8 : Stp [] H7 (upd H7 t1 (.tup [v'])) := Stp.new n1 _
        have h8 : SqT K (upd H7 t1 (.tup [v'])) t1 [v'] := SqT.of upd_same
        generalize upd H7 t1 (.tup [v']) = H8 at *
        refine catT_use (sqt_stp s8 Lsts.nil h7) h8 (by rw [List.length_take]; simp; omega) fun p2 H9 S9 h9 => ?_
        have S79 := (S7.trans s8).trans S9
        refine ⟨_, rfl, a, _, 1, _, rfl, rfl, sqt_stp S79 Lsts.nil hs6, at1, _, rfl, _, _, rfl, rfl, ((j + 1 : Nat) : Int), rfl, ?_⟩
        dsimp only
        refine nopart (slA_use (sqt_stp S79 Lsts.nil hu6) fun p3 H10 S10 h10 => ?_)
        rw [show cutV us (some ((j + 1 : Nat) : Int)) none = _ from cut_from (j + 1)] at h10
        refine catT_use (sqt_stp S10 Lsts.nil h9) h10 (by rw [List.length_append, List.length_take, List.length_drop]; simp; omega) fun p4 H11 S11 h11 => ⟨len2, fun t nt => ?_⟩
        have S611 := (S79.trans S10).trans S11
        have r11 : RpL K H11 ((us.take j ++ [v']) ++ us.drop (j + 1)) (ds.take j ++ d' :: ds.drop (j + 1)) := by
          rw [List.append_assoc]
          exact (((rl6.take j).stp S611 Lsts.nil).app (.cons (rew.rp.stp S611 Lsts.nil) ((rl6.drop (j + 1)).stp S611 Lsts.nil)))
        have B11 := B6.kp S611 (fun m => nomatch m)
        have st := Stp.new (o := .tup [.str W, .ref p4]) nt [b]
        refine k (.ref t) _ _ (((S5.trans S6).trans (S611.nil (S := [b]))).trans st) ((B11.upd (B11.ne nt)).mono (by omega)) (Rew.at hw he fins (rew.up (S611.new' nt)) (two_up nt (.tup h11 ?_ r11) (lz9 (by rcases hw with rfl | rfl <;> simp))))
        rw [List.length_append, List.length_append, List.length_take, List.length_drop]
        simp
        omega
      | tx hw _ _ => exact absurd hin (by rcases hw with rfl | rfl | rfl | rfl <;> decide +kernel)
      | non => exact absurd hin (by decide +kernel)
      | amg _ _ _ => exact absurd hin (by decide +kernel)
      | not _ _ => exact absurd hin (by decide +kernel)
      | say c => exact absurd hin (by decide +kernel)
    rintro σ H2 ⟨x2, x3, rfl, S2, B2⟩
    exact ⟨_, rfl, _, rfl, b, .ref a, d, m0 + 2, rfl, B2, by omega, rp S2, fin, wt, dp50, fun v' d' H3 S3 B3 rew => k v' d' H3 (S2.trans S3) (B3.mono (by omega)) rew⟩
theorem rewr_all {f : Addr} {fd : FuncData} (D : Df K mg "_law_rewritten" s__law_rewritten ["bag", "sieve"] f fd) (T : Nm mg) (c__law_draw : Cl P w K mg base 1 "_law_draw" s__law_draw ["bag", "upto"] spDraw) (c__law_same : Cl P w K mg base 3 "_law_same" s__law_same ["bag", "sieve"] (spSameW K)) : ∀ n : Nat, Cl P w K mg base (n + 3) "_law_rewritten" s__law_rewritten ["bag", "sieve"] (spRewr K n)
  | 0 => cl_never D (fun vs H Q E ⟨b, v, d, m, _, _, _, _, _, _, _, _, hd, _⟩ => Nat.not_lt_zero _ hd) _
  | n + 1 => rewr_step D T (by omega) c__law_draw c__law_same (rewr_all D T c__law_draw c__law_same n)
abbrev s__law_weight : Stmt := topS 60
abbrev N__law_weight : List Str := ["sieve", "parts", "found", "levels", "part", "weight"]
theorem sc__law_weight : FnScope ["sieve", "parts", "found", "levels", "part", "weight"] ["sieve"] (defScope s__law_weight) := ⟨rfl, rfl, rfl, by decide +kernel, rfl, by decide +kernel, by decide +kernel⟩

abbrev s__law_fits : Stmt := topS 61
abbrev N__law_fits : List Str := ["sieve", "weight"]
theorem sc__law_fits : FnScope ["sieve", "weight"] ["sieve"] (defScope s__law_fits) := ⟨rfl, rfl, rfl, by decide +kernel, rfl, by decide +kernel, by decide +kernel⟩

/-! ### how much, by the law -/
def wsL (n : Nat) (ps : List Dt) : Nat := ((ps.map (wds n)).flatten).length
theorem wsL_cons (n : Nat) (d : Dt) (ps : List Dt) : wsL n (d :: ps) = (wds n d).length + wsL n ps := by
  unfold wsL
  rw [List.map_cons, List.flatten_cons, List.length_append]
theorem wsL_snoc (n : Nat) (ps : List Dt) (d : Dt) : wsL n (ps ++ [d]) = wsL n ps + (wds n d).length := by
  unfold wsL
  rw [List.map_append, List.flatten_append, List.length_append]
  simp
theorem wtL_snoc (ps : List Dt) (d : Dt) : wtL (ps ++ [d]) = wtL ps + wtD d := by
  rw [wtL_app']
  rfl
def spWgt (K : PySem.W.Frag) (n : Nat) : Sp := fun vs H Q _ => ∃ (v : V) (d : Dt), vs = [v] ∧ Rp K H v d ∧ Fin d ∧ d.dep < n ∧ wtD d ≤ 5000 ∧
  ∀ (t : Addr) (c l : Nat) H', Stp [] H H' → SqT K H' t [.int (c : Int), .int (l : Int)] → wtD d ≤ 5 * c + (wds n d).length → d.dep ≤ 2 * l → Q (.ref t) H'
theorem weight_step {f : Addr} {fd : FuncData} (D : Df K mg "_law_weight" s__law_weight ["sieve"] f fd) (T : Nm mg) {n m : Nat} (c__law_weight : Cl P w K mg base m "_law_weight" s__law_weight ["sieve"] (spWgt K n)) : Cl P w K mg base (m + 1) "_law_weight" s__law_weight ["sieve"] (spWgt K (n + 1)) := by
  refine D.cl sc__law_weight (fun vs H Q E h => ?_) (fun cdv A outer s H vs Q E hr h => ?_)
  · obtain ⟨v, d, rfl, _⟩ := h
    rfl
  · obtain ⟨v, d, rfl, r, fin, dp, wt, k⟩ := h
    refine ⟨_, (pss_cons (ps_set (i := 1) sc__law_weight.nd rfl (by first | exact Or.inl rfl | exact Or.inr rfl) (pe_lst pa_nil))
      (pss_cons (ps_if (pt_cmpR op_in_seq (pe_ix ix_tup (pv 0) pe_int (fun _ _ => rfl)) (pe_tup (pa_cons pe_str (pa_cons pe_str pa_nil))) (by first | exact nomark _ | rfl)) (pss_one (ps_set (i := 1) sc__law_weight.nd rfl (by first | exact Or.inl rfl | exact Or.inr rfl) (pe_callTy call_list_of (by rfl) T.n_list (by decide +kernel) (pa_cons (pe_ix ix_tup (pv 0) pe_int (fun _ _ => rfl)) pa_nil)))) pss_nil)
      (pss_cons (ps_if (pt_cmpR op_eq (pe_ix ix_tup (pv 0) pe_int (fun _ _ => rfl)) pe_str (by first | exact nomark _ | rfl)) (pss_one (ps_set (i := 1) sc__law_weight.nd rfl (by first | exact Or.inl rfl | exact Or.inr rfl) (pe_lst (pa_cons (pe_ix ix_tup (pv 0) pe_int (fun _ _ => rfl)) pa_nil)))) pss_nil)
      (pss_cons (ps_asg (pe_tup (pa_cons pe_int (pa_cons pe_int pa_nil))) (pg_tup rfl (pgs_cons (pg_name (i := 2) sc__law_weight.nd rfl (by first | exact Or.inl rfl | exact Or.inr rfl)) (pgs_cons (pg_name (i := 3) sc__law_weight.nd rfl (by first | exact Or.inl rfl | exact Or.inr rfl)) pgs_nil (by rfl)) (by rfl)) (by rfl) (by rfl)))
      (pss_cons (ps_for PassesOwn.never rfl (pi_list (pv 1)) (pg_name (i := 4) sc__law_weight.nd rfl (by first | exact Or.inl rfl | exact Or.inr rfl)) (pss_cons (ps_set (i := 5) sc__law_weight.nd rfl (by first | exact Or.inl rfl | exact Or.inr rfl) (pe_cl c__law_weight hr (by omega) (pa_cons (pv 4) pa_nil)))
      (pss_cons (ps_set (i := 2) sc__law_weight.nd rfl (by first | exact Or.inl rfl | exact Or.inr rfl) (pe_op op_add (pv 2) (pe_ix ix_tup (pv 5) pe_int (fun _ _ => rfl))))
      (pss_one (ps_set (i := 3) sc__law_weight.nd rfl (by first | exact Or.inl rfl | exact Or.inr rfl) (pe_callB (call_max2 rfl) (by rfl) T.n_max (by decide +kernel) (pa_cons (pe_callTy call_int1 (by rfl) T.n_int (by decide +kernel) (pa_cons (pv 3) pa_nil)) (pa_cons (pe_callTy call_int1 (by rfl) T.n_int (by decide +kernel) (pa_cons (pe_ix ix_tup (pv 5) pe_int (fun _ _ => rfl)) pa_nil)) pa_nil))))))))
      (pss_one (ps_ret (pe_tup (pa_cons (pv 2) (pa_cons (pe_op op_add (pv 3) pe_int) pa_nil)))))))))), ?_⟩
    have nn : ∀ {x : Addr}, x ∉ ([] : List Addr) := fun m => nomatch m
    have len1 : (1 : Nat) ≤ sizeLine := by decide
    have len2 : (2 : Nat) ≤ sizeLine := by decide
    obtain ⟨a, xs, rfl, hs, hk⟩ := head_of r fin
    have hd : ∀ {H' : Hp}, Stp [] H H' → ∃ xs, SqT K H' a (.str (hdW d) :: xs) ∧ HK K H' d (hdW d) xs := fun s => by
      obtain ⟨a', xs, e, h1, h2⟩ := head_of (r.stp s Lsts.nil) fin
      cases e
      exact ⟨xs, h1, h2⟩
    refine ⟨Nat.zero_le _, fun L0 nL0 => ?_⟩
    have S0 : Stp [] H (upd H L0 (.lst [])) := Stp.new nL0 _
    have hL0 : (upd H L0 (.lst [])) L0 = some (.lst []) := upd_same
    generalize upd H L0 (.lst []) = H0 at *
    -- the parts
    obtain ⟨G, eG⟩ : ∃ G : Hp → Addr → Prop, G = fun H' L => ∃ us ps, H' L = some (.lst us) ∧ RpL K H' us ps ∧ (∀ e ∈ ps, Fin e ∧ e.dep < n ∧ wtD e ≤ 5000) ∧ us.length ≤ 5000 ∧ wtD d + wsL n ps ≤ 5 + wtL ps + (wds (n + 1) d).length ∧ d.dep ≤ Dt.depL ps + 2 := ⟨_, rfl⟩
    have leaf : ∀ {H' : Hp}, H' L0 = some (.lst []) → (hdW d ≠ "and" ∧ hdW d ≠ "or") → hdW d ≠ "not" → Stp [] H H' → G H' L0 := fun {H'} h9 h1 h2 s => by
      rw [eG]
      refine ⟨[], [], h9, .nil, fun e m => (nomatch m), by simp, ?_, ?_⟩
      · show wtD d + 0 ≤ 5 + 0 + (wds (n + 1) d).length
        obtain ⟨xs2, hs2, hk2⟩ := hd s
        generalize hdW d = W at *
        cases hk2 with
        | tx hw _ _ => rw [wt_tx]; omega
        | non => show 3 + 0 ≤ _; omega
        | say c => show 4 + 0 ≤ _; omega
        | not _ _ => exact absurd rfl h2
        | @amg ys u _ _ _ =>
          rw [wt_amg]
          have : wds (n + 1) (amgD ys) = ys := by
            show wds (n + 1) (.tup [.str ("among" : Str).cps.toList, .tup (ys.map Dt.str)]) = ys
            rw [wds_two, wdsW_among]
          rw [this]
          omega
        | many hw _ _ _ _ => rcases hw with rfl | rfl <;> exact absurd rfl (by first | exact h1.1 | exact h1.2)
      · show d.dep ≤ 0 + 2
        obtain ⟨xs2, hs2, hk2⟩ := hd s
        generalize hdW d = W at *
        cases hk2 with
        | tx hw _ _ => rw [dep_tx]; omega
        | non => show 1 ≤ 2; omega
        | say c => show 1 ≤ 2; omega
        | not _ _ => exact absurd rfl h2
        | amg _ _ _ => rw [dep_amg]; omega
        | many hw _ _ _ _ => rcases hw with rfl | rfl <;> exact absurd rfl (by first | exact h1.1 | exact h1.2)
    dsimp only
    refine seq_end (fun σ H' => ∃ L, σ = [some (.ref a), some (.ref L), none, none, none, none] ∧ Stp [] H H' ∧ ((hdW d = "and" ∨ hdW d = "or") ∧ G H' L ∨ (hdW d ≠ "and" ∧ hdW d ≠ "or") ∧ L = L0 ∧ H' L0 = some (.lst []))) ?_ (fun fin2 => ?_)
    rotate_left
    · obtain ⟨xs2, hs2, hk2⟩ := hd S0
      refine ⟨_, rfl, a, _, 0, _, rfl, rfl, hs2, at0, len2, fun t nt => ?_⟩
      have s2 : Stp [] H0 (upd H0 t (.tup [.str "and", .str "or"])) := Stp.new nt _
      refine ⟨t, _, rfl, .inr (SqT.of upd_same), rfl, rfl, _, rfl, ?_⟩
      have hL1 := s2.kp _ _ nn hL0
      have S1 := S0.trans s2
      generalize upd H0 t (.tup [.str "and", .str "or"]) = H1 at *
      refine ite2 (fun h => ?_) (fun h => ?_)
      · have hin : hdW d ∈ (["and", "or"] : List Str) := of_decide_eq_true (inV2.symm.trans h)
        have hin2 : hdW d = "and" ∨ hdW d = "or" := by simpa using hin
        obtain ⟨xs3, hs3, hk3⟩ := hd S1
        generalize hdW d = W at *
        cases hk3 with
        | @many wd ds u us hw hu rl fins lus =>
          have dm := dep_many W ds
          have wm := wt_many W ds
          have lds := len_wt fins
          have lu : us.length = ds.length := rl.len
          refine ⟨_, rfl, a, _, 1, _, rfl, rfl, hs3, at1, _, _, rfl, .inr hu, fun L nL => ?_⟩
          have s3 : Stp [] H1 (upd H1 L (.lst us)) := Stp.new nL _
          refine fin2 _ _ ⟨L, rfl, S1.trans s3, .inl ⟨hin2, ?_⟩⟩
          rw [eG]
          refine ⟨us, ds, upd_same, rl.stp s3 Lsts.nil, fun e me => ⟨fins e me, by have := Dt.dep_mem me; omega, by have := wt_mem me; omega⟩, by omega, ?_, by omega⟩
          have : wds (n + 1) (manyD W ds) = (ds.map (wds n)).flatten := by
            show wds (n + 1) (.tup [.str W.cps.toList, .tup ds]) = _
            rw [wds_two, wdsW_many _ hw]
          rw [this]
          show wtD (manyD W ds) + wsL n ds ≤ 5 + wtL ds + wsL n ds
          omega
        | tx hw _ _ => exact absurd hin (by rcases hw with rfl | rfl | rfl | rfl <;> decide +kernel)
        | non => exact absurd hin (by decide +kernel)
        | amg _ _ _ => exact absurd hin (by decide +kernel)
        | not _ _ => exact absurd hin (by decide +kernel)
        | say c => exact absurd hin (by decide +kernel)
      · refine fin2 _ _ ⟨L0, rfl, S1, .inr ⟨?_, rfl, hL1⟩⟩
        have hin : ¬ hdW d ∈ (["and", "or"] : List Str) := fun g => h (inV2.trans (decide_eq_true g))
        simpa using hin
    rintro σ H1 ⟨L, rfl, S1, kind⟩
    refine seq_end (fun σ H' => ∃ L, σ = [some (.ref a), some (.ref L), none, none, none, none] ∧ Stp [] H H' ∧ G H' L) ?_ (fun fin2 => ?_)
    rotate_left
    · obtain ⟨xs2, hs2, hk2⟩ := hd S1
      refine ⟨_, rfl, a, _, 0, _, rfl, rfl, hs2, at0, rfl, _, rfl, ite2 (fun h => ?_) (fun h => ?_)⟩
      · have hin : hdW d = "not" := V.str.inj (of_decide_eq_true h)
        generalize hdW d = W at *
        cases hk2 with
        | @not d0 u ru fin0 =>
          have dm := dep_not d0
          have wm := wt_not d0
          refine ⟨_, rfl, a, _, 1, _, rfl, rfl, hs2, at1, len1, fun L nL => ?_⟩
          have s3 : Stp [] H1 (upd H1 L (.lst [u])) := Stp.new nL _
          refine fin2 _ _ ⟨L, rfl, S1.trans s3, ?_⟩
          rw [eG]
          refine ⟨[u], [d0], upd_same, .cons (ru.stp s3 Lsts.nil) .nil, fun e me => ?_, by simp, ?_, ?_⟩
          · rw [List.mem_singleton.mp me]
            exact ⟨fin0, by omega, by omega⟩
          · have : wds (n + 1) (notD d0) = wds n d0 := by
              show wds (n + 1) (.tup [.str ("not" : Str).cps.toList, d0]) = _
              rw [wds_two, wdsW_not]
            rw [this, wsL_cons]
            show wtD (notD d0) + ((wds n d0).length + 0) ≤ 5 + (wtD d0 + 0) + (wds n d0).length
            omega
          · show (notD d0).dep ≤ max d0.dep 0 + 2
            omega
        | tx hw _ _ => exact absurd hin (by rcases hw with rfl | rfl | rfl | rfl <;> decide +kernel)
        | non => exact absurd hin (by decide +kernel)
        | amg _ _ _ => exact absurd hin (by decide +kernel)
        | many hw _ _ _ _ => exact absurd hin (by rcases hw with rfl | rfl <;> decide +kernel)
        | say c => exact absurd hin (by decide +kernel)
      · have hin : hdW d ≠ "not" := fun g => h (decide_eq_true (congrArg V.str g))
        refine fin2 _ _ ⟨L, rfl, S1, ?_⟩
        rcases kind with ⟨_, g⟩ | ⟨g1, rfl, g2⟩
        · exact g
        · exact leaf g2 g1 hin S1
    rintro σ H2 ⟨L2, rfl, S2, g⟩
    rw [eG] at g
    obtain ⟨us, ps, hL2, rl, ok, few, wb, db⟩ := g
    have lu : us.length = ps.length := rl.len
    refine ⟨len2, fun t nt => ⟨t, _, rfl, SqT.of upd_same, rfl, _, _, rfl, _, _, rfl, rfl, ?_⟩⟩
    have s3 : Stp [] H2 (upd H2 t (.tup [.int 1, .int 0])) := Stp.new nt _
    have hL3 := s3.kp _ _ nn hL2
    have rl3 := rl.stp s3 Lsts.nil
    generalize upd H2 t (.tup [.int 1, .int 0]) = H3 at *
    refine ⟨_, rfl, L2, rfl, ⟨_, SqL.of hL3⟩, for_list (K := K) (a := L2) (xs := us) (fun i σ H' => ∃ (c l : Nat) (x4 x5 : Option V), σ = [some (.ref a), some (.ref L2), some (.int (c : Int)), some (.int (l : Int)), x4, x5] ∧ Stp [] H3 H' ∧ 1 ≤ c ∧ wtL (ps.take i) ≤ 5 * (c - 1) + wsL n (ps.take i) ∧ Dt.depL (ps.take i) ≤ 2 * l) ⟨1, 0, _, _, rfl, Stp.refl _ _, Nat.le_refl _, Nat.zero_le _, Nat.le_refl _⟩ (fun i σ H' _ ⟨_, _, _, _, _, s, _⟩ => SqL.of (s.kp _ _ nn hL3)) ?_ ?_⟩
    · rintro i x σ H4 hi ⟨c, l, x4, x5, rfl, S4, c1, w4, d4⟩
      obtain ⟨e, he, re⟩ := rl3.get hi
      obtain ⟨fe, de, we⟩ := ok e (List.mem_of_getElem? he)
      refine ⟨_, rfl, x, e, rfl, re.stp S4 Lsts.nil, fe, de, we, fun t5 c5 l5 H5 S5 ht5 w5 d5 => ?_⟩
      refine ⟨_, rfl, _, rfl, t5, _, 0, _, rfl, rfl, ht5, at0, _, _, rfl, rfl, ?_⟩
      refine ⟨_, rfl, .inl ⟨_, rfl, _, rfl, t5, _, 1, _, rfl, rfl, ht5, at1, .inl ⟨_, rfl, _, _, rfl, ?_⟩⟩⟩
      have tk : ps.take (i + 1) = ps.take i ++ [e] := by
        rw [List.take_add_one, he]
        rfl
      have dl : Dt.depL (ps.take i ++ [e]) ≤ 2 * max l l5 := Dt.depL_le fun y my => by
        rcases List.mem_append.mp my with my | my
        · have := Dt.dep_mem my; omega
        · rw [List.mem_singleton.mp my]; omega
      have mx : (if (l5 : Int) > (l : Int) then (l5 : Int) else (l : Int)) = ((max l l5 : Nat) : Int) := by
        split <;> omega
      refine ⟨c + c5, max l l5, some x, some (.ref t5), ?_, S4.trans S5, by omega, ?_, ?_⟩
      · show [some (V.ref a), some (.ref L2), some (.int ((c : Int) + (c5 : Int))), some (.int (if (l5 : Int) > (l : Int) then (l5 : Int) else (l : Int))), some x, some (.ref t5)] = _
        rw [mx, ← Int.natCast_add]
      · rw [tk, wtL_snoc, wsL_snoc]
        omega
      · rw [tk]
        exact dl
    · rintro σ H4 ⟨c, l, x4, x5, rfl, S4, c1, w4, d4⟩
      rw [lu, List.take_length] at w4 d4
      refine ⟨_, rfl, _, rfl, _, _, rfl, rfl, len2, fun t9 n9 => ?_⟩
      refine k t9 c (l + 1) _ (((S2.trans s3).trans S4).new' n9) (SqT.of ?_) (by omega) (by omega)
      rw [upd_same]
      rfl
theorem weight_all {f : Addr} {fd : FuncData} (D : Df K mg "_law_weight" s__law_weight ["sieve"] f fd) (T : Nm mg) : ∀ n : Nat, Cl P w K mg base (n + 1) "_law_weight" s__law_weight ["sieve"] (spWgt K n)
  | 0 => cl_never D (fun vs H Q E ⟨v, d, _, _, _, hd, _⟩ => Nat.not_lt_zero _ hd) 1
  | n + 1 => weight_step D T (weight_all D T n)
def spFits (K : PySem.W.Frag) (n : Nat) : Sp := fun vs H Q _ => ∃ (v : V) (d : Dt), vs = [v] ∧ Rp K H v d ∧ Fin d ∧ d.dep < n ∧ wtD d ≤ 1900 ∧ ∀ (b : Bool) H', Stp [] H H' → (b = true → wtD d ≤ 68 ∧ d.dep ≤ 10) → Q (.bl b) H'
theorem cl__law_fits {f : Addr} {fd : FuncData} {n m : Nat} (D : Df K mg "_law_fits" s__law_fits ["sieve"] f fd) (T : Nm mg) (c__law_weight : Cl P w K mg base m "_law_weight" s__law_weight ["sieve"] (spWgt K n)) (c__law_words : Cl P w K mg base m "_law_words" s__law_words ["sieve"] (spWords K n)) : Cl P w K mg base (m + 1) "_law_fits" s__law_fits ["sieve"] (spFits K n) := by
  refine D.cl sc__law_fits (fun vs H Q E h => ?_) (fun cdv A outer s H vs Q E hr h => ?_)
  · obtain ⟨v, d, rfl, _⟩ := h
    rfl
  · obtain ⟨v, d, rfl, r, fin, dp, wt, k⟩ := h
    refine ⟨_, (pss_cons (ps_set (i := 1) sc__law_fits.nd rfl (by first | exact Or.inl rfl | exact Or.inr rfl) (pe_cl c__law_weight hr (by omega) (pa_cons (pv 0) pa_nil)))
      (pss_one (ps_ret (pe_and (pe_cmpR op_lt (pe_ix ix_tup (pv 1) pe_int (fun _ _ => rfl)) pe_int (by first | exact nomark _ | rfl)) (pe_and (pe_cmpR op_lt (pe_ix ix_tup (pv 1) pe_int (fun _ _ => rfl)) pe_int (by first | exact nomark _ | rfl)) (pe_one (pe_cmpR op_lt (pe_callB call_len_seq (by rfl) T.n_len (by decide +kernel) (pa_cons (pe_cl c__law_words hr (by omega) (pa_cons (pv 0) pa_nil)) pa_nil)) pe_int (by first | exact nomark _ | rfl)))))))), ?_⟩
    refine ⟨_, rfl, v, d, rfl, r, fin, dp, by omega, fun t c l H1 S1 ht wc dl => ?_⟩
    have no : ∀ {H'}, Stp [] H H' → Q (.bl false) H' := fun s => k false _ s (fun e => nomatch e)
    refine ⟨_, rfl, t, _, 0, _, rfl, rfl, ht, at0, _, _, rfl, rfl, _, rfl, ite2 (fun h1 => ?_) (fun h1 => ?_)⟩
    · have h1 : (c : Int) < 13 := of_decide_eq_true h1
      refine ⟨_, rfl, t, _, 1, _, rfl, rfl, ht, at1, _, _, rfl, rfl, _, rfl, ite2 (fun h2 => ?_) (fun h2 => ?_)⟩
      · have h2 : (l : Int) < 6 := of_decide_eq_true h2
        refine ⟨_, rfl, v, d, rfl, r.stp S1 Lsts.nil, fin.fl, dp, by omega, fun L H2 S2 hL => ?_⟩
        refine ⟨L, _, rfl, .inl (SqL.of hL), _, _, rfl, rfl, k _ _ (S1.trans S2) fun e => ?_⟩
        have h3 := of_decide_eq_true e
        rw [List.length_map] at h3
        omega
      · exact no S1
    · exact no S1
abbrev s__law_changed : Stmt := topS 62
abbrev N__law_changed : List Str := ["bag", "sieve", "pool", "at", "part"]
theorem sc__law_changed : FnScope ["bag", "sieve", "pool", "at", "part"] ["bag", "sieve", "pool"] (defScope s__law_changed) := ⟨rfl, rfl, rfl, by decide +kernel, rfl, by decide +kernel, by decide +kernel⟩

/-! ### _law_changed -/
structure Chg (K : PySem.W.Frag) (H : Hp) (v : V) (d d' : Dt) : Prop where
  rp : Rp K H v d'
  fi : Fin d'
  wt : wtD d' ≤ wtD d + 7
  dp : d'.dep ≤ d.dep + 2
theorem Chg.up {d d' : Dt} {H H' : Hp} {v : V} (r : Chg K H v d d') (s : Stp [] H H') : Chg K H' v d d' := ⟨r.rp.stp s Lsts.nil, r.fi, r.wt, r.dp⟩
theorem Chg.notd {d d' : Dt} {H : Hp} {u v : V} (r : Chg K H u d d') (rv : Rp K H v (notD d')) : Chg K H v (notD d) (notD d') := by
  refine ⟨rv, r.fi.not, ?_, ?_⟩
  · have := r.wt; rw [wt_not, wt_not]; omega
  · have := r.dp; rw [dep_not, dep_not]; omega
theorem Chg.at {wd : Str} (hw : wd = "and" ∨ wd = "or") {ds : List Dt} {j : Nat} {d d' : Dt} (h : ds[j]? = some d) (fins : ∀ e ∈ ds, Fin e) {H : Hp} {u v : V} (r : Chg K H u d d') (rv : Rp K H v (manyD wd (ds.take j ++ d' :: ds.drop (j + 1)))) : Chg K H v (manyD wd ds) (manyD wd (ds.take j ++ d' :: ds.drop (j + 1))) := by
  have w1 : wtL ds = wtL (ds.take j) + (wtD d + wtL (ds.drop (j + 1))) := by
    conv => lhs; rw [at_split h]
    rw [wtL_app', wtL_cons]
  have mem := List.mem_of_getElem? h
  refine ⟨rv, Fin.many hw fun x m => ?_, ?_, ?_⟩
  · rcases List.mem_append.mp m with m | m
    · exact fins x (List.mem_of_mem_take m)
    · rcases List.mem_cons.mp m with rfl | m
      · exact r.fi
      · exact fins x (List.mem_of_mem_drop m)
  · have := r.wt
    rw [wt_many, wt_many, wtL_app', wtL_cons]
    omega
  · have c : Dt.depL (ds.take j ++ d' :: ds.drop (j + 1)) ≤ Dt.depL ds + 2 := Dt.depL_le fun x m => by
      rcases List.mem_append.mp m with m | m
      · have := Dt.dep_mem (List.mem_of_mem_take m); omega
      · rcases List.mem_cons.mp m with rfl | m
        · have := Dt.dep_mem mem
          have := r.dp
          omega
        · have := Dt.dep_mem (List.mem_of_mem_drop m); omega
    rw [dep_many, dep_many]
    omega
def spChg (K : PySem.W.Frag) (n : Nat) : Sp := fun vs H Q _ => ∃ (b p : Addr) (v : V) (d : Dt) (m : Nat) (ls : List (List Nat)), vs = [.ref b, v, .ref p] ∧ Bag H b m ∧ m + 4 * n + 2000 < 2 ^ 30 ∧ n ≤ 100 ∧ Pool H p ls ∧ ls.length ≤ 900 ∧ b ≠ p ∧ Rp K H v d ∧ Fin d ∧ wtD d ≤ 1000 ∧ d.dep ≤ 50 ∧ d.dep < n ∧
  ∀ v' d' ls' H', Stp [b, p] H H' → Bag H' b (m + 4 * n + 400) → Pool H' p ls' → ls'.length ≤ ls.length + 2 → Chg K H' v' d d' → Q v' H'
theorem chg_step {f : Addr} {fd : FuncData} (D : Df K mg "_law_changed" s__law_changed ["bag", "sieve", "pool"] f fd) (T : Nm mg) {n m : Nat} (hm : 4 ≤ m) (c__law_draw : Cl P w K mg base 1 "_law_draw" s__law_draw ["bag", "upto"] spDraw) (c__law_near : Cl P w K mg base 2 "_law_near" s__law_near ["bag", "word"] spNear)
    (c__law_leaf : Cl P w K mg base 4 "_law_leaf" s__law_leaf ["bag", "room", "pool"] (spLeaf K)) (c__law_changed : Cl P w K mg base m "_law_changed" s__law_changed ["bag", "sieve", "pool"] (spChg K n)) : Cl P w K mg base (m + 1) "_law_changed" s__law_changed ["bag", "sieve", "pool"] (spChg K (n + 1)) := by
  refine D.cl sc__law_changed (fun vs H Q E h => ?_) (fun cdv A outer s H vs Q E hr h => ?_)
  · obtain ⟨b, p, v, d, m, ls, rfl, _⟩ := h
    rfl
  · obtain ⟨b, p, v, d, m0, ls, rfl, B, hn, n100, pl, few, bp, r, fin, wt, dp50, dp, k⟩ := h
    refine ⟨_, (pss_cons (ps_if (PW.pt (pw_and (pt_cmpR op_eq (pe_ix ix_tup (pv 1) pe_int (fun _ _ => rfl)) pe_str (by first | exact nomark _ | rfl)) (pw_and1 (pt_cmpR op_gt (pe_cl c__law_draw hr (by omega) (pa_cons (pv 0) (pa_cons pe_int pa_nil))) pe_int (by first | exact nomark _ | rfl))))) (pss_one (ps_ret (pe_tup (pa_cons pe_str (pa_cons (pe_cl c__law_changed hr (by omega) (pa_cons (pv 0) (pa_cons (pe_ix ix_tup (pv 1) pe_int (fun _ _ => rfl)) (pa_cons (pv 2) pa_nil)))) pa_nil))))) pss_nil)
      (pss_cons (ps_if (PW.pt (pw_and (pt_cmpR op_in_seq (pe_ix ix_tup (pv 1) pe_int (fun _ _ => rfl)) (pe_tup (pa_cons pe_str (pa_cons pe_str pa_nil))) (by first | exact nomark _ | rfl)) (pw_and (pt_cmpR (op_neD hr.units) (pe_ix ix_tup (pv 1) pe_int (fun _ _ => rfl)) (pe_tup pa_nil) (by first | exact nomark _ | rfl)) (pw_and1 (pt_cmpR op_gt (pe_cl c__law_draw hr (by omega) (pa_cons (pv 0) (pa_cons pe_int pa_nil))) pe_int (by first | exact nomark _ | rfl)))))) (pss_cons (ps_set (i := 3) sc__law_changed.nd rfl (by first | exact Or.inl rfl | exact Or.inr rfl) (pe_cl c__law_draw hr (by omega) (pa_cons (pv 0) (pa_cons (pe_callB call_len_seq (by rfl) T.n_len (by decide +kernel) (pa_cons (pe_ix ix_tup (pv 1) pe_int (fun _ _ => rfl)) pa_nil)) pa_nil))))
      (pss_cons (ps_set (i := 4) sc__law_changed.nd rfl (by first | exact Or.inl rfl | exact Or.inr rfl) (pe_cl c__law_changed hr (by omega) (pa_cons (pv 0) (pa_cons (pe_ix ix_tup (pe_ix ix_tup (pv 1) pe_int (fun _ _ => rfl)) (pv 3) (fun _ _ => rfl)) (pa_cons (pv 2) pa_nil)))))
      (pss_one (ps_ret (pe_tup (pa_cons (pe_ix ix_tup (pv 1) pe_int (fun _ _ => rfl)) (pa_cons (pe_op op_catA (pe_op op_catA (pe_slice sl_tupA (pe_ix ix_tup (pv 1) pe_int (fun _ _ => rfl)) po_none (po_some (pv 3))) (pe_tup (pa_cons (pv 4) pa_nil))) (pe_slice sl_tupA (pe_ix ix_tup (pv 1) pe_int (fun _ _ => rfl)) (po_some (pe_op op_add (pv 3) pe_int)) po_none)) pa_nil))))))) pss_nil)
      (pss_cons (ps_if (PW.pt (pw_and (pt_cmpR op_in_seq (pe_ix ix_tup (pv 1) pe_int (fun _ _ => rfl)) (pe_tup (pa_cons pe_str (pa_cons pe_str (pa_cons pe_str (pa_cons pe_str pa_nil))))) (by first | exact nomark _ | rfl)) (pw_and1 (pt_cmpR op_gt (pe_cl c__law_draw hr (by omega) (pa_cons (pv 0) (pa_cons pe_int pa_nil))) pe_int (by first | exact nomark _ | rfl))))) (pss_one (ps_ret (pe_tup (pa_cons (pe_ix ix_tup (pv 1) pe_int (fun _ _ => rfl)) (pa_cons (pe_cl c__law_near hr (by omega) (pa_cons (pv 0) (pa_cons (pe_ix ix_tup (pv 1) pe_int (fun _ _ => rfl)) pa_nil))) pa_nil))))) pss_nil)
      (pss_one (ps_ret (pe_cl c__law_leaf hr (by omega) (pa_cons (pv 0) (pa_cons (pe_lst (pa_cons pe_int (pa_cons pe_int pa_nil))) (pa_cons (pv 2) pa_nil))))))))), ?_⟩
    have one : b ∈ [b] := List.mem_singleton.mpr rfl
    have len1 : (1 : Nat) ≤ sizeLine := by decide
    have len2 : (2 : Nat) ≤ sizeLine := by decide
    have len4 : (4 : Nat) ≤ sizeLine := by decide
    have lzn : ("not" : Str).cps.toList.length ≤ 100000 := lz9 (by simp)
    have lb : Lsts H [b] := Pv.bag_ls B
    have sub : ∀ x ∈ ([b] : List Addr), x ∈ [b, p] := fun x m => by rw [List.mem_singleton.mp m]; simp
    have npb : p ∉ [b] := fun m => bp (List.mem_singleton.mp m).symm
    have plS : ∀ {H' : Hp}, Stp [b] H H' → Pool H' p ls := fun s => ⟨s.kp _ _ npb pl.1, pl.2⟩
    obtain ⟨a, xs, rfl, hs, hk⟩ := head_of r fin
    have rp : ∀ {H' : Hp}, Stp [b] H H' → Rp K H' (.ref a) d := fun s => r.stp s lb
    have hd : ∀ {H' : Hp}, Stp [b] H H' → ∃ xs, SqT K H' a (.str (hdW d) :: xs) ∧ HK K H' d (hdW d) xs := fun s => by
      obtain ⟨a', xs, e, h1, h2⟩ := head_of (rp s) fin
      cases e
      exact ⟨xs, h1, h2⟩
    -- not
    refine seq_end (fun σ H' => σ = [some (.ref b), some (.ref a), some (.ref p), none, none] ∧ Stp [b] H H' ∧ Bag H' b (m0 + 1)) ?_ (fun fin2 => ?_)
    rotate_left
    · refine ⟨_, rfl, a, _, 0, _, rfl, rfl, hs, at0, rfl, _, rfl, ite2 (fun h => ?_) (fun _ => ite2 (fun h => nomatch h) (fun _ => fin2 _ _ ⟨rfl, Stp.refl _ _, B.mono (by omega)⟩))⟩
      have hin : hdW d = "not" := V.str.inj (of_decide_eq_true h)
      refine ⟨_, rfl, b, 3, m0, rfl, B, by omega, by decide, by decide, fun x H1 x0 x1 o1 B1 => ?_⟩
      have S1 : Stp [b] H H1 := o1.stp one
      refine ⟨_, _, rfl, rfl, _, rfl, ite2 (fun _ => ?_) (fun _ => fin2 _ _ ⟨rfl, S1, B1⟩)⟩
      obtain ⟨xs2, hs2, hk2⟩ := hd S1
      generalize hdW d = W at *
      cases hk2 with
      | @not d0 u ru fin0 =>
        have w0 := wt_not d0
        have dd0 := dep_not d0
        refine ⟨_, rfl, _, rfl, a, _, 1, _, rfl, rfl, hs2, at1, _, rfl, b, p, u, d0, m0 + 1, ls, rfl, B1, by omega, by omega, plS S1, few, bp, ru, fin0, by omega, by omega, by omega, fun v' d' ls' H2 S2 B2 pl2 l2 rew => ⟨len2, fun t nt => ?_⟩⟩
        have st := Stp.new (o := .tup [.str "not", v']) nt [b, p]
        have B3 := B2.upd (o := .tup [.str "not", v']) (B2.ne nt)
        have pt : p ≠ t := ne_of_none pl2.1 nt
        exact k (.ref t) (notD d') ls' _ (((S1.sub sub).trans S2).trans st) (B3.mono (by omega)) ⟨by rw [upd_ne pt]; exact pl2.1, pl2.2⟩ l2 ((rew.up (Stp.new nt [])).notd (two_up nt rew.rp lzn))
      | tx hw _ _ => exact absurd hin (by rcases hw with rfl | rfl | rfl | rfl <;> decide +kernel)
      | non => exact absurd hin (by decide +kernel)
      | amg _ _ _ => exact absurd hin (by decide +kernel)
      | many hw _ _ _ _ => exact absurd hin (by rcases hw with rfl | rfl <;> decide +kernel)
      | say c => exact absurd hin (by decide +kernel)
    rintro σ H1 ⟨rfl, S1, B1⟩
    -- and, or
    refine seq_end (fun σ H' => ∃ x2 x3 : Option V, σ = [some (.ref b), some (.ref a), some (.ref p), x2, x3] ∧ Stp [b] H H' ∧ Bag H' b (m0 + 2)) ?_ (fun fin2 => ?_)
    rotate_left
    · obtain ⟨xs2, hs2, hk2⟩ := hd S1
      refine ⟨_, rfl, a, _, 0, _, rfl, rfl, hs2, at0, len2, fun t nt => ?_⟩
      have s2 : Stp [] H1 (upd H1 t (.tup [.str "and", .str "or"])) := Stp.new nt _
      refine ⟨t, _, rfl, .inr (SqT.of upd_same), rfl, rfl, _, rfl, ?_⟩
      have B2 := B1.kp s2 (fun m => nomatch m)
      have S2 := S1.trans (s2.nil (S := [b]))
      generalize upd H1 t (.tup [.str "and", .str "or"]) = H2 at *
      refine ite2 (fun h => ?_) (fun _ => ite2 (fun h => nomatch h) (fun _ => fin2 _ _ ⟨_, _, rfl, S2, B2.mono (by omega)⟩))
      have hin : hdW d ∈ (["and", "or"] : List Str) := of_decide_eq_true (inV2.symm.trans h)
      obtain ⟨xs3, hs3, hk3⟩ := hd S2
      generalize hdW d = W at *
      cases hk3 with
      | @many wd ds u us hw hu rl fins lus =>
        have dm := dep_many W ds
        have wm := wt_many W ds
        have lds := len_wt fins
        have lu : us.length = ds.length := rl.len
        refine ⟨_, rfl, a, _, 1, _, rfl, rfl, hs3, at1, Nat.zero_le _, fun q nq => ?_⟩
        have s3 : Stp [] H2 (upd H2 q (.tup [])) := Stp.new nq _
        refine ⟨_, .tuple [], parts_dp (sqt_stp s3 Lsts.nil hu) (rl.stp s3 Lsts.nil) fins, .tup (SqT.of upd_same) .nil, shaped_parts fins (by omega), rfl, ?_⟩
        rw [parts_ne]
        have B3 := B2.kp s3 (fun m => nomatch m)
        have S3 := S2.trans (s3.nil (S := [b]))
        generalize upd H2 q (.tup []) = H3 at *
        refine ⟨_, rfl, ite2 (fun hne => ?_) (fun _ => ite2 (fun h => nomatch h) (fun _ => fin2 _ _ ⟨_, _, rfl, S3, B3.mono (by omega)⟩))⟩
        have pos : 0 < ds.length := by
          cases ds with
          | nil => exact absurd hne (by decide)
          | cons d ds => simp
        refine ⟨_, rfl, b, 4, m0 + 1, rfl, B3, by omega, by decide, by decide, fun x H4 x0 x1 o4 B4 => ?_⟩
        have S4 := S3.trans (o4.stp one)
        refine ⟨_, _, rfl, rfl, _, rfl, ite2 (fun _ => ?_) (fun _ => fin2 _ _ ⟨_, _, rfl, S4, B4⟩)⟩
        have s34 : Stp [b] H2 H4 := (s3.nil (S := [b])).trans (o4.stp one)
        have lb2 : Lsts H2 [b] := Pv.bag_ls B2
        have hu4 := sqt_stp s34 lb2 hu
        have rl4 := rl.stp s34 lb2
        have hs4 := sqt_stp s34 lb2 hs3
        -- at
        refine ⟨_, rfl, _, rfl, a, _, 1, _, rfl, rfl, hs4, at1, u, us, rfl, .inr hu4, b, _, m0 + 2, rfl, B4, by omega, by omega, by omega, fun y H5 y0 y1 o5 B5 => ?_⟩
        obtain ⟨j, rfl⟩ := Int.eq_ofNat_of_zero_le y0
        have jl : j < us.length := by omega
        obtain ⟨x, hx⟩ : ∃ x, us[j]? = some x := ⟨us[j], List.getElem?_eq_getElem jl⟩
        have s45 : Stp [b] H4 H5 := o5.stp one
        have lb4 : Lsts H4 [b] := Pv.bag_ls B4
        have hu5 := sqt_stp s45 lb4 hu4
        have rl5 := rl4.stp s45 lb4
        have hs55 := sqt_stp s45 lb4 hs4
        obtain ⟨e, he, re⟩ := rl5.get hx
        have mem := List.mem_of_getElem? he
        have wme := wt_mem mem
        have dme := Dt.dep_mem mem
        have S5 := S4.trans s45
        refine ⟨_, rfl, _, rfl, a, _, 1, _, rfl, rfl, hs55, at1, _, rfl, u, us, (j : Int), x, rfl, rfl, hu5, atI_nat hx, _, rfl, b, p, x, e, m0 + 3, ls, rfl, B5, by omega, by omega, plS S5, few, bp, re, fins e mem, by omega, by omega, by omega, fun v' d' ls' H6 S6 B6 pl6 l6 rew => ?_⟩
        have lb5 : Lsts H5 [b, p] := by
          obtain ⟨x, y, z, hb, _⟩ := B5
          exact .cons hb (.one (plS S5).1)
        have hu6 := sqt_stp S6 lb5 hu5
        have rl6 := rl5.stp S6 lb5
        have hs6 := sqt_stp S6 lb5 hs55
        -- the tuple
        refine ⟨_, rfl, a, _, 0, _, rfl, rfl, hs6, at0, ?_⟩
        refine ⟨_, rfl, a, _, 1, _, rfl, rfl, hs6, at1, _, rfl, (j : Int), rfl, ?_⟩
        refine slA_use hu6 fun p1 H7 S7 h7 => ?_
        rw [show cutV us none (some (j : Int)) = _ from cut_upto j] at h7
        refine ⟨_, rfl, len1, fun t1 n1 => ?_⟩
        have s8 : Stp [] H7 (upd H7 t1 (.tup [v'])) := Stp.new n1 _
        have h8 : SqT K (upd H7 t1 (.tup [v'])) t1 [v'] := SqT.of upd_same
        generalize upd H7 t1 (.tup [v']) = H8 at *
        refine catT_use (sqt_stp s8 Lsts.nil h7) h8 (by rw [List.length_take]; simp; omega) fun p2 H9 S9 h9 => ?_
        have S79 := (S7.trans s8).trans S9
        refine ⟨_, rfl, a, _, 1, _, rfl, rfl, sqt_stp S79 Lsts.nil hs6, at1, _, rfl, _, _, rfl, rfl, ((j + 1 : Nat) : Int), rfl, ?_⟩
        dsimp only
        refine nopart (slA_use (sqt_stp S79 Lsts.nil hu6) fun p3 H10 S10 h10 => ?_)
        rw [show cutV us (some ((j + 1 : Nat) : Int)) none = _ from cut_from (j + 1)] at h10
        refine catT_use (sqt_stp S10 Lsts.nil h9) h10 (by rw [List.length_append, List.length_take, List.length_drop]; simp; omega) fun p4 H11 S11 h11 => ⟨len2, fun t nt => ?_⟩
        have S611 := (S79.trans S10).trans S11
        have r11 : RpL K H11 ((us.take j ++ [v']) ++ us.drop (j + 1)) (ds.take j ++ d' :: ds.drop (j + 1)) := by
          rw [List.append_assoc]
          exact (((rl6.take j).stp S611 Lsts.nil).app (.cons (rew.rp.stp S611 Lsts.nil) ((rl6.drop (j + 1)).stp S611 Lsts.nil)))
        have B11 := B6.kp S611 (fun m => nomatch m)
        have pl11 : H11 p = some (.lst (ls'.map Tx)) := S611.kp _ _ (fun m => nomatch m) pl6.1
        have pt : p ≠ t := ne_of_none pl11 nt
        have st := Stp.new (o := .tup [.str W, .ref p4]) nt [b, p]
        refine k (.ref t) _ ls' _ ((((S5.sub sub).trans S6).trans (S611.nil (S := [b, p]))).trans st) ((B11.upd (B11.ne nt)).mono (by omega)) ⟨by rw [upd_ne pt]; exact pl11, pl6.2⟩ l6 (Chg.at hw he fins (rew.up (S611.new' nt)) (two_up nt (.tup h11 ?_ r11) (lz9 (by rcases hw with rfl | rfl <;> simp))))
        rw [List.length_append, List.length_append, List.length_take, List.length_drop]
        simp
        omega
      | tx hw _ _ => exact absurd hin (by rcases hw with rfl | rfl | rfl | rfl <;> decide +kernel)
      | non => exact absurd hin (by decide +kernel)
      | amg _ _ _ => exact absurd hin (by decide +kernel)
      | not _ _ => exact absurd hin (by decide +kernel)
      | say c => exact absurd hin (by decide +kernel)
    rintro σ H2 ⟨x2, x3, rfl, S2, B2⟩
    -- near
    refine seq_end (fun σ H' => ∃ x2 x3 : Option V, σ = [some (.ref b), some (.ref a), some (.ref p), x2, x3] ∧ Stp [b] H H' ∧ Bag H' b (m0 + 3)) ?_ (fun fin2 => ?_)
    rotate_left
    · obtain ⟨xs2, hs2, hk2⟩ := hd S2
      refine ⟨_, rfl, a, _, 0, _, rfl, rfl, hs2, at0, len4, fun t nt => ?_⟩
      have s3 : Stp [] H2 (upd H2 t (.tup [.str "is", .str "below", .str "above", .str "begins"])) := Stp.new nt _
      refine ⟨t, _, rfl, .inr (SqT.of upd_same), rfl, rfl, _, rfl, ?_⟩
      have B3 := B2.kp s3 (fun m => nomatch m)
      have S3 := S2.trans (s3.nil (S := [b]))
      generalize upd H2 t (.tup [.str "is", .str "below", .str "above", .str "begins"]) = H3 at *
      refine ite2 (fun h => ?_) (fun _ => ite2 (fun h => nomatch h) (fun _ => fin2 _ _ ⟨_, _, rfl, S3, B3.mono (by omega)⟩))
      have hin : hdW d ∈ (["is", "below", "above", "begins"] : List Str) := of_decide_eq_true (inV4.symm.trans h)
      refine ⟨_, rfl, b, 3, m0 + 2, rfl, B3, by omega, by decide, by decide, fun x H4 x0 x1 o4 B4 => ?_⟩
      have S4 := S3.trans (o4.stp one)
      refine ⟨_, _, rfl, rfl, _, rfl, ite2 (fun _ => ?_) (fun _ => fin2 _ _ ⟨_, _, rfl, S4, B4⟩)⟩
      obtain ⟨xs5, hs5, hk5⟩ := hd S4
      generalize hdW d = W at *
      cases hk5 with
      | @tx wd l hw al ll =>
        refine ⟨_, rfl, a, _, 0, _, rfl, rfl, hs5, at0, _, rfl, _, rfl, a, _, 1, _, rfl, rfl, hs5, at1, b, m0 + 3, l, rfl, B4, by omega, al, ll, fun y H5 ay ly S5 B5 => ⟨len2, fun t nt => ?_⟩⟩
        have st := Stp.new (o := .tup [.str W, Tx y]) nt [b]
        have pl5 := plS (S4.trans S5)
        have pt : p ≠ t := ne_of_none pl5.1 nt
        refine k (.ref t) (txD W y) ls _ (((S4.trans S5).trans st).sub sub) ((B5.upd (B5.ne nt)).mono (by omega)) ⟨by rw [upd_ne pt]; exact pl5.1, pl5.2⟩ (by omega) ⟨two_up nt (.str y (by omega)) (lz9 (by rcases hw with rfl | rfl | rfl | rfl <;> simp)), Fin.tx hw ay ly, ?_, ?_⟩
        · rw [wt_tx, wt_tx]; decide
        · rw [dep_tx, dep_tx]; decide
      | non => exact absurd hin (by decide +kernel)
      | amg _ _ _ => exact absurd hin (by decide +kernel)
      | not _ _ => exact absurd hin (by decide +kernel)
      | many hw _ _ _ _ => exact absurd hin (by rcases hw with rfl | rfl <;> decide +kernel)
      | say c => exact absurd hin (by decide +kernel)
    rintro σ H3 ⟨x2, x3, rfl, S3, B3⟩
    -- a leaf
    have pl3 := plS S3
    refine ⟨_, rfl, len2, fun q nq => ?_⟩
    have bq : b ≠ q := B3.ne nq
    have pq : p ≠ q := ne_of_none pl3.1 nq
    have s0 : Sto (ls.length + 2) (upd H3 q (.lst [.int 1, .int 2])) b q p (m0 + 3) 1 2 ls := ⟨B3.upd bq, upd_same, ⟨by rw [upd_ne pq]; exact pl3.1, pl3.2⟩, bq, bp, pq.symm, by decide, by omega⟩
    refine ⟨_, rfl, _, b, q, p, m0 + 3, 1, 2, ls, rfl, s0, by omega, fun v' H4 r1' ls' md S4 s4 => ?_⟩
    obtain ⟨d', rd, fd', dd, td, wd'⟩ := md
    have ps := s4.pos
    have fw := s4.few
    have w3 := flt_wt fin.fl
    have d3 := flt_dep fin.fl
    refine k v' d' ls' H4 ?_ (s4.bag.mono (by omega)) s4.pool (by omega) ⟨rd, ⟨fd', td⟩, by omega, by omega⟩
    refine (S3.sub sub).trans (Stp.loc nq ?_)
    refine (Stp.new nq _).trans (S4.sub fun x m => ?_)
    simp at m ⊢
    rcases m with rfl | rfl | rfl <;> simp
theorem chg_all {f : Addr} {fd : FuncData} (D : Df K mg "_law_changed" s__law_changed ["bag", "sieve", "pool"] f fd) (T : Nm mg) (c__law_draw : Cl P w K mg base 1 "_law_draw" s__law_draw ["bag", "upto"] spDraw) (c__law_near : Cl P w K mg base 2 "_law_near" s__law_near ["bag", "word"] spNear)
    (c__law_leaf : Cl P w K mg base 4 "_law_leaf" s__law_leaf ["bag", "room", "pool"] (spLeaf K)) : ∀ n : Nat, Cl P w K mg base (n + 4) "_law_changed" s__law_changed ["bag", "sieve", "pool"] (spChg K n)
  | 0 => cl_never D (fun vs H Q E ⟨b, p, v, d, m, ls, _, _, _, _, _, _, _, _, _, _, _, hd, _⟩ => Nat.not_lt_zero _ hd) _
  | n + 1 => chg_step D T (by omega) c__law_draw c__law_near c__law_leaf (chg_all D T c__law_draw c__law_near c__law_leaf n)
/-! ### a word and a span, written out -/
structure Fit (d : Dt) : Prop where
  fi : Fin d
  wt : wtD d ≤ 70
  dp : d.dep ≤ 12
theorem Fit.fil {d : Dt} (f : Fit d) {H : Hp} {v : V} (r : Rp K H v d) : Fil K 100 H v d := ⟨r, f.fi.fl, by have := f.dp; omega, tsh_mono (by decide) d f.fi.ts, by have := f.wt; omega⟩
def Lak (z : Str) : Prop := z = "yes" ∨ z = "no" ∨ z = "open"
theorem lak_ans {i : Int} (h : In3 i) : Lak (ansW i) := by
  rcases h with rfl | rfl | rfl
  · exact .inr (.inl rfl)
  · exact .inr (.inr rfl)
  · exact .inl rfl
/-- a word and a span -/
def selD (z : Str) (ps : List Pr) : Dt := .tup [.str z.cps.toList, spD ps]
theorem sel_rp {H : Hp} {t b : Addr} {z : Str} {ps : List Pr} (ht : SqT K H t [.str z, .ref b]) (sp : Spn K H b ps) (lz : z.cps.toList.length ≤ 100000) : Rp K H (.ref t) (selD z ps) := .tup ht (by simp) (.cons (Rp.lit z lz) (.cons sp.rp .nil))
theorem rep_sel {H : Hp} {t b : Addr} {z : Str} {ps : List Pr} {Q : VK} (ht : SqT K H t [.str z, .ref b]) (sp : Spn K H b ps) (hz : Lak z) (few : ps.length ≤ 3000) (k : Q (.str (pyD (selD z ps)).shown) H) : rNeat K [.ref t] H Q := by
  have gz : gdD (.str z.cps.toList) := by rcases hz with rfl | rfl | rfl <;> exact gd_lit
  have lz : z.cps.toList.length ≤ 100000 := by have := gz.1; omega
  have d := dep_spn ps
  refine rep_rp (sel_rp ht sp lz) ⟨gz, gd_spn sp.ok, trivial⟩ ?_ ?_ k
  · show max (Dt.dep (.str z.cps.toList)) (max (spD ps).dep 0) + 1 ≤ 100
    show max 0 (max (spD ps).dep 0) + 1 ≤ 100
    omega
  · show 1 + (wtD (spD ps) + 0) + 2 ≤ 20000
    rw [wt_spn]
    omega
/-! ### two values in a list -/
theorem dps_vl {K : PySem.W.Frag} {H : Hp} : ∀ (rs : List Vl), DpAll K H (rs.map oV) (rs.map vlP)
  | [] => .nil
  | none :: rs => .cons .non (dps_vl rs)
  | some l :: rs => .cons (.str _) (dps_vl rs)
theorem neats_vl : ∀ (rs : List Vl), (∀ r ∈ rs, OkT r) → Neats (rs.map vlP)
  | [], _ => .nil
  | none :: rs, h => .cons .non (neats_vl rs fun r m => h r (List.mem_cons_of_mem _ m))
  | some l :: rs, h => .cons (neat_tx (h (some l) List.mem_cons_self l rfl)) (neats_vl rs fun r m => h r (List.mem_cons_of_mem _ m))
theorem deps_vl : ∀ rs : List Vl, PyData.depthAll (rs.map vlP) = 0
  | [] => rfl
  | r :: rs => by
    show max (PyData.depth (vlP r)) (PyData.depthAll (rs.map vlP)) = 0
    rw [deps_vl rs]
    cases r <;> rfl
theorem dWs_vl : ∀ rs : List Vl, dWs (rs.map vlP) ≤ 404 * rs.length
  | [] => Nat.le_refl _
  | r :: rs => by
    show dW (vlP r) + 2 + dWs (rs.map vlP) ≤ 404 * (rs.length + 1)
    have : dW (vlP r) ≤ 402 := by cases r <;> simp [vlP, dW]
    have := dWs_vl rs
    omega
theorem rep_tts {K : PySem.W.Frag} {H : Hp} {q t u : Addr} {rs ss : List Vl} {Q : VK} (hq : SqL K H q [.ref t, .ref u]) (ht : SqT K H t (rs.map oV)) (hu : SqT K H u (ss.map oV)) (o1 : ∀ r ∈ rs, OkT r) (o2 : ∀ r ∈ ss, OkT r) (f1 : rs.length ≤ 3) (f2 : ss.length ≤ 3) (k : Q (.str (PyData.list [.tuple (rs.map vlP), .tuple (ss.map vlP)]).shown) H) : rNeat K [.ref q] H Q := by
  refine ⟨_, _, rfl, .lst hq (.cons (.tup ht (dps_vl rs)) (.cons (.tup hu (dps_vl ss)) .nil)), .lst (.cons (.tup (neats_vl rs o1)) (.cons (.tup (neats_vl ss o2)) .nil)), ?_, ?_, k⟩
  · show max (PyData.depthAll (rs.map vlP) + 1) (max (PyData.depthAll (ss.map vlP) + 1) 0) + 1 ≤ 100
    rw [deps_vl, deps_vl]
    decide
  · have := dWs_vl rs
    have := dWs_vl ss
    show (dWs (rs.map vlP) + 4 + 2 + (dWs (ss.map vlP) + 4 + 2 + 0)) + 4 ≤ 10000000
    omega
theorem rep_bls {K : PySem.W.Frag} {H : Hp} {q : Addr} {a b : Bool} {Q : VK} (hq : SqL K H q [.bl a, .bl b]) (k : Q (.str (PyData.list [.bool a, .bool b]).shown) H) : rNeat K [.ref q] H Q := by
  refine ⟨_, _, rfl, .lst hq (.cons (.bl a) (.cons (.bl b) .nil)), .lst (.cons (.bl a) (.cons (.bl b) .nil)), ?_, ?_, k⟩
  · cases a <;> cases b <;> decide
  · cases a <;> cases b <;> decide
/-! ### lists of whole numbers -/
theorem dp_ints {K : PySem.W.Frag} {H : Hp} : ∀ (is : List Int), DpAll K H (is.map V.int) (is.map PyData.int)
  | [] => .nil
  | i :: is => .cons (.int i) (dp_ints is)
theorem eqv_ints : ∀ (is js : List Int), PyData.eqvAll (is.map PyData.int) (js.map PyData.int) = decide (is = js)
  | [], [] => by simp [PyData.eqvAll]
  | [], _ :: _ => by simp [PyData.eqvAll]
  | _ :: _, [] => by simp [PyData.eqvAll]
  | i :: is, j :: js => by
    have := eqv_ints is js
    simp only [List.map_cons, PyData.eqvAll, PyData.eqv, this]
    rw [Bool.eq_iff_iff]
    simp
theorem eqv_lists (is js : List Int) : PyData.eqv (.list (is.map PyData.int)) (.list (js.map PyData.int)) = decide (is = js) := by
  have := eqv_ints is js
  simpa [PyData.eqv] using this
theorem lay_ints : ∀ (is : List Int), (∀ i ∈ is, 0 ≤ i ∧ i ≤ 1000) → PyData.canLayAll0 (is.map PyData.int) = true
  | [], _ => rfl
  | i :: is, h => by
    have a := lay_ints is fun j m => h j (List.mem_cons_of_mem _ m)
    have b := h i List.mem_cons_self
    show (PyData.canLay0 (.int i) && PyData.canLayAll0 (is.map PyData.int)) = true
    rw [a, Bool.and_true]
    simp [PyData.canLay0]
theorem dep_ints : ∀ (is : List Int), PyData.depthAll (is.map PyData.int) = 0
  | [] => rfl
  | i :: is => by
    show max (PyData.depth (.int i)) (PyData.depthAll (is.map PyData.int)) = 0
    rw [dep_ints is]
    rfl
theorem shaped_ints {is : List Int} (h : ∀ i ∈ is, 0 ≤ i ∧ i ≤ 1000) : SeqAt.shaped (.list (is.map PyData.int)) = true := by
  unfold SeqAt.shaped
  rw [show PyData.canLay0 (.list (is.map PyData.int)) = true from lay_ints is h]
  have e : PyData.depth (.list (is.map PyData.int)) = PyData.depthAll (is.map PyData.int) + 1 := rfl
  rw [e, dep_ints]
  decide
/-! ### the places where something holds -/
def plc (p : Nat → Bool) (n : Nat) : List Nat := (List.range n).filter p
theorem plc_succ (p : Nat → Bool) (n : Nat) : plc p (n + 1) = plc p n ++ (if p n = true then [n] else []) := by
  unfold plc
  rw [List.range_succ, List.filter_append]
  cases q : p n <;> simp [q]
theorem plc_len (p : Nat → Bool) (n : Nat) : (plc p n).length ≤ n := by
  have := List.length_filter_le p (List.range n)
  rw [List.length_range] at this
  exact this
theorem plc_mem {p : Nat → Bool} {n k : Nat} : k ∈ plc p n ↔ k < n ∧ p k = true := by
  unfold plc
  rw [List.mem_filter, List.mem_range]
theorem plc_head {p : Nat → Bool} {n k : Nat} {t : List Nat} (e : plc p n = k :: t) : k < n ∧ p k = true ∧ ∀ i, i < k → p i = false := by
  have pw : (plc p n).Pairwise (· < ·) := List.pairwise_lt_range.filter p
  have m : k ∈ plc p n := by rw [e]; exact List.mem_cons_self
  have mk := plc_mem.mp m
  refine ⟨mk.1, mk.2, fun i hi => ?_⟩
  rw [Bool.eq_false_iff]
  intro h
  have mi : i ∈ plc p n := plc_mem.mpr ⟨by omega, h⟩
  rw [e] at pw mi
  rcases List.mem_cons.mp mi with rfl | mi
  · omega
  · have := (List.pairwise_cons.mp pw).1 i mi
    omega
theorem plc_nil {p : Nat → Bool} {n : Nat} : plc p n = [] ↔ ∀ i, i < n → p i = false := by
  constructor
  · intro e i hi
    rw [Bool.eq_false_iff]
    intro h
    have := plc_mem.mpr ⟨hi, h⟩
    rw [e] at this
    cases this
  · intro h
    rcases e : plc p n with _ | ⟨k, t⟩
    · rfl
    · have := plc_head e
      rw [h k this.1] at this
      cases this.2.1
/-! ### what parts, only one -/
theorem part_uniq {n : Nat} {d1 d2 : Dt} : ∀ {rs ss : List Vl}, PartOf n d1 d2 rs → PartOf n d1 d2 ss → rs = ss
  | [], [], _, _ => rfl
  | [none], [none], _, _ => rfl
  | [], [none], p, q => absurd p.1 q
  | [none], [], p, q => absurd q.1 p
  | [none], [some _], p, q => absurd q.1 p
  | [some _], [none], p, q => absurd p.1 q
  | [], [some w], p, q => absurd (p.2 w q.2.1) q.2.2.2.1
  | [some w], [], p, q => absurd (q.2 w p.2.1) p.2.2.2.1
  | [some w], [some u], p, q => by
    by_cases c : w < u
    · exact absurd (q.2.2.2.2 w p.2.1 c) p.2.2.2.1
    · by_cases g : u < w
      · exact absurd (p.2.2.2.2 u q.2.1 g) q.2.2.2.1
      · rw [List.le_antisymm (le_of_nlt g) (le_of_nlt c)]
  | none :: _ :: _, _, p, _ => p.elim
  | some _ :: _ :: _, _, p, _ => p.elim
  | _, none :: _ :: _, _, q => q.elim
  | _, some _ :: _ :: _, _, q => q.elim
theorem part_ok {n : Nat} {d1 d2 : Dt} : ∀ {rs : List Vl}, PartOf n d1 d2 rs → (∀ r ∈ rs, OkT r) ∧ rs.length ≤ 3
  | [], _ => ⟨fun _ m => (nomatch m), by simp⟩
  | [none], _ => ⟨fun r m l e => (by rw [List.mem_singleton.mp m] at e; cases e), by simp⟩
  | [some w], p => ⟨fun r m l e => (by rw [List.mem_singleton.mp m] at e; cases e; exact ⟨p.2.1, p.2.2.1⟩), by simp⟩
  | none :: _ :: _, p => p.elim
  | some _ :: _ :: _, p => p.elim
theorem ans_yes {i : Int} (h : In3 i) : decide (V.str (ansW i) = V.str "yes") = decide (i = 2) := by rcases h with rfl | rfl | rfl <;> decide +kernel
theorem int_two (i : Int) : decide (V.int i = V.int 2) = decide (i = 2) := decide_eq_decide.mpr ⟨fun h => V.int.inj h, fun h => by rw [h]⟩
/-! ### two filters over their corners -/
structure Two (zs : List Txt) (d1 d2 : Dt) : Prop where
  pw : zs.Pairwise (· < ·)
  sh : ∀ z ∈ zs, Short z
  h0 : [] ∈ zs
  c1 : ∀ z w, Abc w → Cel zs z w → yesB 100 d1 w = yesB 100 d1 z
  c2 : ∀ z w, Abc w → Cel zs z w → yesB 100 d2 w = yesB 100 d2 z
def tsv (zs : List Txt) : List Vl := none :: zs.map some
def tAt (zs : List Txt) (k : Nat) : Vl := ((tsv zs)[k]?).getD none
theorem tat_some {zs : List Txt} {k : Nat} {t : Vl} (h : (tsv zs)[k]? = some t) : tAt zs k = t := by
  unfold tAt
  rw [h]
  rfl
theorem tsv_len (zs : List Txt) : (tsv zs).length = zs.length + 1 := by simp [tsv]
def dif (zs : List Txt) (d1 d2 : Dt) (k : Nat) : Bool := !decide (decide (lev 100 (tAt zs k) d1 = 2) = decide (lev 100 (tAt zs k) d2 = 2))
def inn (zs : List Txt) (d1 d2 : Dt) (k : Nat) : Bool := decide (lev 100 (tAt zs k) d1 = 2) && decide (lev 100 (tAt zs k) d2 < 2)
theorem Two.cell {zs : List Txt} {d1 d2 : Dt} (T : Two zs d1 d2) (w : Txt) : ∃ z, Cel zs z w := cel_ex w zs ⟨[], T.h0, nil_le w⟩
theorem Two.all {zs : List Txt} {d1 d2 : Dt} (T : Two zs d1 d2) {R : Bool → Bool → Prop} (h : ∀ z ∈ zs, R (yesB 100 d1 z) (yesB 100 d2 z)) : ∀ w, Abc w → R (yesB 100 d1 w) (yesB 100 d2 w) := fun w aw => by
  obtain ⟨z, c⟩ := T.cell w
  rw [T.c1 z w aw c, T.c2 z w aw c]
  exact h z c.1
theorem lev_two_iff (n : Nat) (z : Txt) (d : Dt) : decide (lev n (some z) d = 2) = yesB n d z := rfl
theorem tsv_mem {zs : List Txt} {t : Vl} : t ∈ tsv zs ↔ t = none ∨ ∃ z ∈ zs, t = some z := by
  unfold tsv
  rw [List.mem_cons, List.mem_map]
  exact ⟨fun h => h.imp id fun ⟨z, m, e⟩ => ⟨z, m, e.symm⟩, fun h => h.imp id fun ⟨z, m, e⟩ => ⟨z, m, e.symm⟩⟩
theorem lvl_lists {zs : List Txt} {d1 d2 : Dt} (T : Two zs d1 d2) : (tsv zs).map (fun t => lev 100 t d1) = (tsv zs).map (fun t => lev 100 t d2) ↔ lev 100 none d1 = lev 100 none d2 ∧ ∀ w, Abc w → yesB 100 d1 w = yesB 100 d2 w := by
  rw [List.map_inj_left]
  constructor
  · intro h
    refine ⟨h none (tsv_mem.mpr (.inl rfl)), T.all (R := fun a b => a = b) fun z mz => ?_⟩
    have := h (some z) (tsv_mem.mpr (.inr ⟨z, mz, rfl⟩))
    unfold yesB
    rw [this]
  · rintro ⟨h1, h2⟩ t mt
    rcases tsv_mem.mp mt with rfl | ⟨z, mz, rfl⟩
    · exact h1
    · rw [lev_yes, lev_yes, h2 z (T.sh z mz).1]
theorem dif_no {zs : List Txt} {d1 d2 : Dt} {k : Nat} (h : dif zs d1 d2 k = false) : decide (lev 100 (tAt zs k) d1 = 2) = decide (lev 100 (tAt zs k) d2 = 2) := by
  unfold dif at h
  simpa using h
theorem dif_yes {zs : List Txt} {d1 d2 : Dt} {k : Nat} (h : dif zs d1 d2 k = true) : decide (lev 100 (tAt zs k) d1 = 2) ≠ decide (lev 100 (tAt zs k) d2 = 2) := by
  unfold dif at h
  simpa using h
theorem tat_zero (zs : List Txt) : tAt zs 0 = none := rfl
theorem tat_succ {zs : List Txt} {k : Nat} {z : Txt} (h : zs[k]? = some z) : tAt zs (k + 1) = some z := tat_some (by unfold tsv; rw [List.getElem?_cons_succ, List.getElem?_map, h]; rfl)
theorem tat_ex {zs : List Txt} {z : Txt} (h : z ∈ zs) : ∃ k, k < (tsv zs).length ∧ tAt zs k = some z := by
  obtain ⟨j, hj, e⟩ := List.mem_iff_getElem.mp h
  exact ⟨j + 1, by rw [tsv_len]; omega, tat_succ (by rw [List.getElem?_eq_getElem hj, e])⟩
theorem part_first {zs : List Txt} {d1 d2 : Dt} (T : Two zs d1 d2) : PartOf 100 d1 d2 (((plc (dif zs d1 d2) (tsv zs).length).take 1).map (tAt zs)) := by
  rcases e : plc (dif zs d1 d2) (tsv zs).length with _ | ⟨k, t⟩
  · have no := plc_nil.mp e
    refine ⟨dif_no (no 0 (by rw [tsv_len]; omega)), T.all (R := fun a b => a = b) fun z mz => ?_⟩
    obtain ⟨k, hk, ek⟩ := tat_ex mz
    have := dif_no (no k hk)
    rw [ek] at this
    exact this
  · obtain ⟨hk, yk, least⟩ := plc_head e
    have dk := dif_yes yk
    show PartOf 100 d1 d2 [tAt zs k]
    cases k with
    | zero =>
      rw [tat_zero] at dk ⊢
      exact dk
    | succ j =>
      have hj : j < zs.length := by rw [tsv_len] at hk; omega
      have ej := tat_succ (List.getElem?_eq_getElem hj)
      have mj := T.sh _ (List.getElem_mem hj)
      rw [ej] at dk ⊢
      refine ⟨dif_no (least 0 (by omega)), mj.1, mj.2, dk, fun x ax lt => ?_⟩
      obtain ⟨z, c⟩ := T.cell x
      rw [T.c1 z x ax c, T.c2 z x ax c]
      obtain ⟨i, hi, ei⟩ := List.mem_iff_getElem.mp c.1
      have lz : z < zs[j] := le_lt c.2.1 lt
      have ij : i < j := by
        rcases Nat.lt_trichotomy i j with g | g | g
        · exact g
        · subst g
          rw [ei] at lz
          exact absurd lz (List.lt_irrefl _)
        · have := List.pairwise_iff_getElem.mp T.pw j i hj hi g
          rw [ei] at this
          exact absurd (List.lt_trans this lz) (List.lt_irrefl _)
      have := dif_no (least (i + 1) (by omega))
      rw [tat_succ (List.getElem?_eq_getElem hi), ei] at this
      exact this
theorem in_first {zs : List Txt} {d1 d2 : Dt} (T : Two zs d1 d2) : plc (inn zs d1 d2) (tsv zs).length = [] ↔ (lev 100 none d1 = 2 → lev 100 none d2 = 2) ∧ ∀ w, Abc w → yesB 100 d1 w = true → yesB 100 d2 w = true := by
  have one : ∀ k, inn zs d1 d2 k = false ↔ (lev 100 (tAt zs k) d1 = 2 → lev 100 (tAt zs k) d2 = 2) := fun k => by
    unfold inn
    rw [Bool.and_eq_false_iff, decide_eq_false_iff_not, decide_eq_false_iff_not]
    rcases lev_in 100 (tAt zs k) d1 with a | a | a <;> rcases lev_in 100 (tAt zs k) d2 with b | b | b <;> rw [a, b] <;> decide
  rw [plc_nil]
  constructor
  · intro h
    refine ⟨(one 0).mp (h 0 (by rw [tsv_len]; omega)), T.all (R := fun a b => a = true → b = true) fun z mz => ?_⟩
    obtain ⟨k, hk, ek⟩ := tat_ex mz
    have := (one k).mp (h k hk)
    rw [ek] at this
    exact fun h => decide_eq_true (this (of_decide_eq_true h))
  · rintro ⟨h1, h2⟩ k hk
    rw [one]
    rw [tsv_len] at hk
    cases k with
    | zero => exact h1
    | succ j =>
      have hj : j < zs.length := by omega
      rw [tat_succ (List.getElem?_eq_getElem hj)]
      exact fun h => of_decide_eq_true (h2 _ (T.sh _ (List.getElem_mem hj)).1 (decide_eq_true h))
theorem rep_tup {K : PySem.W.Frag} {H : Hp} {t : Addr} {rs : List Vl} {Q : VK} (ht : SqT K H t (rs.map oV)) (ok : ∀ r ∈ rs, OkT r) (few : rs.length ≤ 3) (k : Q (.str (PyData.tuple (rs.map vlP)).shown) H) : rNeat K [.ref t] H Q := by
  refine ⟨_, _, rfl, .tup ht (dps_vl rs), .tup (neats_vl rs ok), ?_, ?_, k⟩
  · show PyData.depthAll (rs.map vlP) + 1 ≤ 100
    rw [deps_vl]
    decide
  · have := dWs_vl rs
    show dWs (rs.map vlP) + 4 ≤ 10000000
    omega
/-- [(), True, True] -/
theorem rep_three {K : PySem.W.Frag} {H : Hp} {q t : Addr} {Q : VK} (hq : SqL K H q [.ref t, .bl true, .bl true]) (ht : SqT K H t []) (k : Q (.str (PyData.list [.tuple [], .bool true, .bool true]).shown) H) : rNeat K [.ref q] H Q :=
  ⟨_, _, rfl, .lst hq (.cons (.tup ht .nil) (.cons (.bl true) (.cons (.bl true) .nil))), .lst (.cons (.tup .nil) (.cons (.bl true) (.cons (.bl true) .nil))), by decide, by decide, k⟩
abbrev s__law_apart : Stmt := topS 63
abbrev N__law_apart : List Str := ["start", "odd", "things", "due", "thing"]
theorem sc__law_apart : FnScope ["start", "odd", "things", "due", "thing"] ["start", "odd"] (defScope s__law_apart) := ⟨rfl, rfl, rfl, by decide +kernel, rfl, by decide +kernel, by decide +kernel⟩

/-! ### _law_apart -/
def spApart (K : PySem.W.Frag) : Sp := fun vs H Q _ => ∃ (v1 v2 : V) (d1 d2 : Dt), vs = [v1, v2] ∧ Rp K H v1 d1 ∧ Fit d1 ∧ Rp K H v2 d2 ∧ Fit d2 ∧ ∀ H', Stp [] H H' → Q (.bl true) H'
theorem cl__law_apart {f : Addr} {fd : FuncData} (D : Df K mg "_law_apart" s__law_apart ["start", "odd"] f fd) (T : Nm mg) (c__law_words : Cl P w K mg base 204 "_law_words" s__law_words ["sieve"] (spWords K 100)) (c__law_corners : Cl P w K mg base 204 "_law_corners" s__law_corners ["words"] spCor)
    (c__law_level : Cl P w K mg base 204 "_law_level" s__law_level ["sieve", "thing"] (spLev K 100)) (c_alike : Cl P w K mg base 205 "alike" s_alike ["one", "other"] (spAlike K 100)) (c_parting : Cl P w K mg base 204 "parting" s_parting ["one", "other"] (spPart K 100))
    (c__law_chosen : Cl P w K mg base 204 "_law_chosen" s__law_chosen ["sieve"] (spCho K 100)) : ClG P w K mg base 206 "_law_apart" s__law_apart ["start", "odd"] (spApart K) := by
  refine ⟨f, fd, D, D.g sc__law_apart (fun vs H Q E h => ?_) (fun cdv A outer s H vs Q E hG hr h => ?_)⟩
  · obtain ⟨v1, v2, d1, d2, rfl, _⟩ := h
    rfl
  · obtain ⟨v1, v2, d1, d2, rfl, r1, f1, r2, f2, k⟩ := h
    refine ⟨_, (pss_cons (ps_set (i := 2) sc__law_apart.nd rfl (by first | exact Or.inl rfl | exact Or.inr rfl) (pe_op op_cat (pe_lst (pa_cons pe_non pa_nil)) (pe_cl c__law_corners hr (by omega) (pa_cons (pe_op op_cat (pe_cl c__law_words hr (by omega) (pa_cons (pv 0) pa_nil)) (pe_cl c__law_words hr (by omega) (pa_cons (pv 1) pa_nil))) pa_nil))))
      (pss_cons (ps_setLc (i := 3) (own := [("thing", 4)]) rfl sc__law_apart.nd rfl rfl (sw_true rfl rfl rfl (by decide +kernel)) (pi_list (pv 2)) (blkOk_by (own := [("thing", 4)]) (N := N__law_apart) (sc := defScope s__law_apart) (by decide +kernel)) (fun _ _ _ _ _ => (pg_name (i := 4) sc__law_apart.nd rfl (by first | exact Or.inl rfl | exact Or.inr rfl))) (fun _ _ _ _ _ => (pts_one (pt_cmpR op_ne (pe_cmpR op_eq (pe_cl c__law_level hr (by omega) (pa_cons (pv 0) (pa_cons (pv 4) pa_nil))) pe_int (by first | exact nomark _ | rfl)) (pe_cmpR op_eq (pe_cl c__law_level hr (by omega) (pa_cons (pv 1) (pa_cons (pv 4) pa_nil))) pe_int (by first | exact nomark _ | rfl)) (by first | exact nomark _ | rfl)))) (fun _ _ _ _ _ => (pv 4)))
      (pss_cons (ps_if (pt_cmpR op_ne (pe_callB (Pg.call_repr_neat hG hr) (by rfl) T.n_repr (by decide +kernel) (pa_cons (pe_cl c_parting hr (by omega) (pa_cons (pv 0) (pa_cons (pv 1) pa_nil))) pa_nil)) (pe_callB (Pg.call_repr_neat hG hr) (by rfl) T.n_repr (by decide +kernel) (pa_cons (pe_callTy call_tuple_of (by rfl) T.n_tuple (by decide +kernel) (pa_cons (pe_slice sl_list (pv 3) po_none (po_some pe_int)) pa_nil)) pa_nil)) (by first | exact nomark _ | rfl)) (pss_one (ps_ret pe_bl)) pss_nil)
      (pss_one (ps_ret (pe_cmpR op_eq (pe_callB (Pg.call_repr_neat hG hr) (by rfl) T.n_repr (by decide +kernel) (pa_cons (pe_cl c_alike hr (by omega) (pa_cons (pv 1) (pa_cons (pv 0) pa_nil))) pa_nil)) (pe_callB (Pg.call_repr_neat hG hr) (by rfl) T.n_repr (by decide +kernel) (pa_cons (pe_cmpR (op_eqD hr.units) (pe_cl c__law_chosen hr (by omega) (pa_cons (pv 0) pa_nil)) (pe_cl c__law_chosen hr (by omega) (pa_cons (pv 1) pa_nil)) (by first | exact nomark _ | rfl)) pa_nil)) (by first | exact nomark _ | rfl))))))), ?_⟩
    have nn : ∀ {x : Addr}, x ∉ ([] : List Addr) := fun m => nomatch m
    have len1 : (1 : Nat) ≤ sizeLine := by decide
    have len2 : (2 : Nat) ≤ sizeLine := by decide
    have sz : ∀ {n : Nat}, n ≤ 1000 → n ≤ sizeLine := fun h => Nat.le_trans h (by decide)
    have w1 := f1.wt
    have w2 := f2.wt
    have g1 := f1.dp
    have g2 := f2.dp
    have s1 := tsh_mono (k := 30) (by decide) d1 f1.fi.ts
    have s2 := tsh_mono (k := 30) (by decide) d2 f2.fi.ts
    have l1 := wds_len 100 f1.fi.fl
    have l2 := wds_len 100 f2.fi.fl
    -- things
    refine ⟨len1, fun q0 n0 => ?_⟩
    have S0 : Stp [] H (upd H q0 (.lst [.non])) := Stp.new n0 _
    have h0 : (upd H q0 (.lst [.non])) q0 = some (.lst [.non]) := upd_same
    generalize upd H q0 (.lst [.non]) = H0 at *
    refine ⟨_, rfl, v1, d1, rfl, r1.stp S0 Lsts.nil, f1.fi.fl, by omega, by omega, fun L1 H1 S1 h1 => ?_⟩
    have S01 := S0.trans S1
    refine ⟨_, rfl, v2, d2, rfl, r2.stp S01 Lsts.nil, f2.fi.fl, by omega, by omega, fun L2 H2 S2 h2 => ?_⟩
    refine ⟨L1, L2, _, _, rfl, rfl, S2.kp _ _ nn h1, h2, sz (by rw [List.length_map, List.length_map]; omega), fun L3 n3 => ?_⟩
    have S3 : Stp [] H2 (upd H2 L3 (.lst ((wds 100 d1).map Tx ++ (wds 100 d2).map Tx))) := Stp.new n3 _
    have h3 : (upd H2 L3 (.lst ((wds 100 d1).map Tx ++ (wds 100 d2).map Tx))) L3 = some (.lst ((wds 100 d1 ++ wds 100 d2).map Tx)) := by rw [upd_same, List.map_append]
    generalize upd H2 L3 (.lst ((wds 100 d1).map Tx ++ (wds 100 d2).map Tx)) = H3 at *
    refine ⟨L3, _, rfl, h3, fun x m => ?_, by rw [List.length_append]; omega, fun zs L4 H4 S4 h4 pw sh lz po => ?_⟩
    · rcases List.mem_append.mp m with m | m
      · exact wds_ok 100 f1.fi.fl s1 x m
      · exact wds_ok 100 f2.fi.fl s2 x m
    rw [List.length_append] at lz
    have S14 := ((S1.trans S2).trans S3).trans S4
    refine ⟨q0, L4, _, _, rfl, rfl, S14.kp _ _ nn h0, h4, sz (by rw [List.length_map]; simp; omega), fun L nL => ?_⟩
    have eT : ([V.non] ++ zs.map Tx : List V) = (tsv zs).map oV := by
      unfold tsv
      rw [List.map_cons, List.map_map]
      rfl
    rw [eT]
    have S5 : Stp [] H4 (upd H4 L (.lst ((tsv zs).map oV))) := Stp.new nL _
    have hL : (upd H4 L (.lst ((tsv zs).map oV))) L = some (.lst ((tsv zs).map oV)) := upd_same
    generalize upd H4 L (.lst ((tsv zs).map oV)) = H5 at *
    have lt := tsv_len zs
    have S05 := (S0.trans S14).trans S5
    have hz0 : [] ∈ zs := (po []).mpr (.inl rfl)
    have za : ∀ z ∈ zs, Abc z := fun z m => (sh z m).1
    have sub := ptsX_sub po
    have TW : Two zs d1 d2 := ⟨pw, sh, hz0, fun z w aw c => yes_cell za hz0 aw c 100 f1.fi.fl fun x m => sub x (List.mem_append_left _ m), fun z w aw c => yes_cell za hz0 aw c 100 f2.fi.fl fun x m => sub x (List.mem_append_right _ m)⟩
    have okv : ∀ t ∈ tsv zs, OkV t := fun t m => by
      rcases tsv_mem.mp m with rfl | ⟨z, mz, rfl⟩
      · exact fun l e => by cases e
      · exact fun l e => by cases e; exact ⟨(sh z mz).1, Nat.le_trans (sh z mz).2 (by decide)⟩
    -- due
    refine ⟨_, rfl, L, rfl, ⟨_, SqL.of hL⟩, fun A nA => ?_⟩
    refine lc_list (a := L) (xs := (tsv zs).map oV) (fun i H6 => H6 A = some (.lst (((plc (dif zs d1 d2) i).map (tAt zs)).map oV)) ∧ Stp [] H5 H6) ⟨upd_same, Stp.new nA _⟩ (fun i H6 _ ⟨_, S⟩ => SqL.of (S.kp _ _ nn hL)) ?_ ?_
    · rintro i x H6 hi ⟨hA, S6⟩
      rw [List.getElem?_map] at hi
      cases e : (tsv zs)[i]? with
      | none => rw [e] at hi; cases hi
      | some t =>
        rw [e] at hi
        cases hi
        have hlt : i < (tsv zs).length := (List.getElem?_eq_some_iff.mp e).1
        have et := tat_some e
        have S06 := S05.trans S6
        refine ⟨rfl, _, rfl, _, rfl, v1, d1, t, rfl, r1.stp S06 Lsts.nil, f1.fi.fl, by omega, okv t (List.mem_of_getElem? e), fun H7 S7 => ?_⟩
        refine ⟨rfl, _, rfl, _, rfl, v2, d2, t, rfl, r2.stp (S06.trans S7) Lsts.nil, f2.fi.fl, by omega, okv t (List.mem_of_getElem? e), fun H8 S8 => ⟨rfl, ?_⟩⟩
        rw [int_two, int_two]
        have S68 := (S6.trans S7).trans S8
        have hA8 := (S7.trans S8).kp _ _ nn hA
        refine ⟨rfl, _, rfl, ite2 (fun h => ?_) (fun h => ?_)⟩
        · have g : dif zs d1 d2 i = true := by unfold dif; rw [et]; simpa using h
          refine ⟨_, rfl, _, hA8, ?_, ?_, S68.mut nA⟩
          · have := plc_len (dif zs d1 d2) i
            rw [List.length_map, List.length_map]
            exact Nat.lt_of_le_of_lt (show _ ≤ 1000 by omega) (by decide)
          · rw [upd_same, plc_succ, if_pos g, List.map_append, List.map_append, ← et]
            rfl
        · have g : dif zs d1 d2 i = false := by unfold dif; rw [et]; simpa using h
          refine ⟨?_, S68⟩
          rw [plc_succ, if_neg (by rw [g]; decide), List.append_nil]
          exact hA8
    rintro H6 ⟨hA, S6⟩
    rw [List.length_map] at hA
    obtain ⟨js, ejs⟩ : ∃ js, js = plc (dif zs d1 d2) (tsv zs).length := ⟨_, rfl⟩
    have part := part_first TW
    rw [← ejs] at hA part
    obtain ⟨rs, ers⟩ : ∃ rs, rs = (js.take 1).map (tAt zs) := ⟨_, rfl⟩
    rw [← ers] at part
    have pk := part_ok part
    have S06 := S05.trans S6
    have F1 : Fil K 100 H6 v1 d1 := (f1.fil r1).up S06
    have F2 : Fil K 100 H6 v2 d2 := (f2.fil r2).up S06
    -- parting
    refine ⟨_, rfl, _, rfl, v1, v2, d1, d2, rfl, F1, F2, by omega, by omega, fun t1 rs1 H7 S7 hr1 pt1 => ?_⟩
    obtain rfl := part_uniq pt1 part
    refine tn (rep_tup hr1 pk.1 pk.2 ?_)
    have hA7 := S7.kp _ _ nn hA
    refine ⟨_, rfl, 1, rfl, A, _, rfl, SqL.of hA7, fun p8 n8 => ?_⟩
    have c8 : cutV ((js.map (tAt zs)).map oV) none (some 1) = rs1.map oV := by rw [show cutV ((js.map (tAt zs)).map oV) none (some 1) = _ from cut_upto 1, ers, List.map_take, List.map_take]
    rw [c8]
    have S8 : Stp [] H7 (upd H7 p8 (.lst (rs1.map oV))) := Stp.new n8 _
    have h8 : (upd H7 p8 (.lst (rs1.map oV))) p8 = some (.lst (rs1.map oV)) := upd_same
    generalize upd H7 p8 (.lst (rs1.map oV)) = H8 at *
    refine tn ⟨p8, _, rfl, .inl ⟨SqL.of h8, fun p9 n9 => ?_⟩⟩
    have S9 : Stp [] H8 (upd H8 p9 (.tup (rs1.map oV))) := Stp.new n9 _
    refine tn (rep_tup (SqT.of upd_same) pk.1 pk.2 ?_)
    generalize upd H8 p9 (.tup (rs1.map oV)) = H9 at *
    refine ⟨rfl, _, rfl, ite2 (fun h => absurd h (by simp)) (fun _ => ?_)⟩
    have S69 := (S7.trans S8).trans S9
    -- alike
    refine ⟨_, rfl, _, rfl, v2, v1, d2, d1, rfl, F2.up S69, F1.up S69, fun b H10 S10 hb => tn (rep_bl ?_)⟩
    have S610 := S69.trans S10
    refine ⟨_, rfl, v1, d1, rfl, F1.up S610, by omega, fun t2 b2 ps H11 S11 ht2 sp2 eq2 => ?_⟩
    refine ⟨_, rfl, v2, d2, rfl, (F2.up S610).up S11, by omega, fun t3 b3 qs H12 S12 ht3 sp3 eq3 => ?_⟩
    have ht2' := sqt_stp S12 Lsts.nil ht2
    have sp2' := sp2.up S12
    refine ⟨_, _, sel_dp ht2' sp2', sel_dp ht3 sp3, shaped_sel fun p m => (sp2.ok.ok p m).s, shaped_sel fun p m => (sp3.ok.ok p m).s, ?_⟩
    rw [eqv_sel]
    have eb : decide (ansW (lev 100 none d1) = ansW (lev 100 none d2) ∧ ps = qs) = b := by
      rw [Bool.eq_iff_iff, hb, decide_eq_true_iff, ans_inj (lev_in 100 none d1) (lev_in 100 none d2)]
      constructor
      · rintro ⟨e1, e2⟩
        exact ⟨e1.symm, fun w aw => by rw [← eq2 w aw, ← eq3 w aw, e2]⟩
      · rintro ⟨e1, e2⟩
        exact ⟨e1.symm, span_uniqA sp2.ok sp3.ok fun w aw => by rw [eq2 w aw, eq3 w aw, e2 w aw]⟩
    rw [eb]
    refine tn (rep_bl ⟨rfl, ?_⟩)
    rw [decide_eq_true rfl]
    exact k _ (((S06.trans S610).trans S11).trans S12)
abbrev s_law : Stmt := topS 64
abbrev N_law : List Str := ["script", "bag", "pool", "start", "due", "here", "cells", "k", "maybe", "odd"]
theorem sc_law : FnScope ["script", "bag", "pool", "start", "due", "here", "cells", "k", "maybe", "odd"] ["script"] (defScope s_law) := ⟨rfl, rfl, rfl, by decide +kernel, rfl, by decide +kernel, by decide +kernel⟩

/-! ### the law -/
def spLaw (K : PySem.W.Frag) : Sp := fun vs H Q _ => ∃ (a : Addr) (ns : List Int), vs = [.ref a] ∧ SqL K H a (ns.map V.int) ∧ ns.length ≤ 63 ∧ ∀ H', Q (.bl true) H'
theorem lev_same {d e : Dt} (sm : Same d e) (h1 : d.dep < 100) (h2 : e.dep < 100) {t : Vl} (ht : Ok1 t) : lev 100 t e = lev 100 t d := by rw [lvs_lev t h1, lvs_lev t h2, sm t ht]
theorem sql_keep {K : PySem.W.Frag} {H H' : Hp} {a : Addr} {xs : List V} (s : ∀ o, H a = some o → H' a = some o) (h : SqL K H a xs) : SqL K H' a xs := by
  rcases h with (h | ⟨o, h⟩) | h
  · exact .inl (.inl (s _ h))
  · exact .inl (.inr ⟨o, s _ h⟩)
  · exact .inr h
theorem cl_law {f : Addr} {fd : FuncData} (D' : Df K mg "law" s_law ["script"] f fd) (T : Nm mg) (c__law_bag : Cl P w K mg base 1 "_law_bag" s__law_bag ["cell"] spBag) (c__law_sieve : Cl P w K mg base 10 "_law_sieve" s__law_sieve ["bag", "room", "pool", "levels"] (spSieve K 5))
    (c__law_chosen : Cl P w K mg base 204 "_law_chosen" s__law_chosen ["sieve"] (spCho K 100)) (c__law_rewritten : Cl P w K mg base 103 "_law_rewritten" s__law_rewritten ["bag", "sieve"] (spRewr K 100)) (c__law_fits : Cl P w K mg base 104 "_law_fits" s__law_fits ["sieve"] (spFits K 100))
    (c_selection : Cl P w K mg base 204 "selection" s_selection ["query"] (spSel K 100)) (c_alike : Cl P w K mg base 205 "alike" s_alike ["one", "other"] (spAlike K 100)) (c_parting : Cl P w K mg base 204 "parting" s_parting ["one", "other"] (spPart K 100)) (c_within : Cl P w K mg base 204 "within" s_within ["one", "other"] (spWithin K 100))
    (c__law_changed : Cl P w K mg base 104 "_law_changed" s__law_changed ["bag", "sieve", "pool"] (spChg K 100)) (c__law_apart : ClG P w K mg base 206 "_law_apart" s__law_apart ["start", "odd"] (spApart K)) :
    FnG P w K mg base 207 f fd ["script"] (spLaw K) := by
  refine D'.g sc_law (fun vs H Q E h => ?_) (fun cdv A outer s H vs Q E hG hr h => ?_)
  · obtain ⟨a, ns, rfl, _⟩ := h
    rfl
  · obtain ⟨a, ns, rfl, hS, hlen, k⟩ := h
    refine ⟨_, (pss_cons (ps_par (i := 1) (j := 2) rfl sc_law.nd rfl rfl (by decide) rfl rfl (pa_cons (pe_cl c__law_bag hr (by omega) (pa_cons (pe_ix ix_list (pe_op Pv.op_catS (pv 0) (pe_lst (pa_cons (pe_op op_add (pe_op op_pow pe_int pe_int) pe_int) pa_nil))) pe_int (fun _ _ => rfl)) pa_nil)) (pa_cons (pe_lst pa_nil) pa_nil)) (by rfl))
      (pss_cons (ps_set (i := 3) sc_law.nd rfl (by first | exact Or.inl rfl | exact Or.inr rfl) (pe_cl c__law_sieve hr (by omega) (pa_cons (pv 1) (pa_cons (pe_lst (pa_cons pe_int (pa_cons pe_int pa_nil))) (pa_cons (pv 2) (pa_cons pe_int pa_nil))))))
      (pss_cons (ps_par (i := 4) (j := 5) rfl sc_law.nd rfl rfl (by decide) rfl rfl (pa_cons (pe_callB (Pg.call_repr_neat hG hr) (by rfl) T.n_repr (by decide +kernel) (pa_cons (pe_cl c__law_chosen hr (by omega) (pa_cons (pv 3) pa_nil)) pa_nil)) (pa_cons (pv 3) pa_nil)) (by rfl))
      (pss_cons (ps_set (i := 6) sc_law.nd rfl (by first | exact Or.inl rfl | exact Or.inr rfl) (pe_op op_cat (pe_slice sl_list (pv 0) (po_some pe_int) po_none) (pe_lc (own := [("k", 7)]) rfl sc_law.nd (pi_range1 (by rfl) T.n_range (pa_cons pe_int pa_nil)) (blkOk_by (own := [("k", 7)]) (N := N_law) (sc := defScope s_law) (by decide +kernel)) (fun _ _ _ _ _ => (pg_name (i := 7) sc_law.nd rfl (by first | exact Or.inl rfl | exact Or.inr rfl))) (fun _ _ _ _ _ => pts_nil) (fun _ _ _ _ _ => (pe_op op_add (pe_op op_add (pe_op op_pow pe_int pe_int) pe_int) (pv 7))))))
      (pss_cons (ps_for PassesOwn.never rfl (pi_range1 (by rfl) T.n_range (pa_cons (pe_callB call_len_seq (by rfl) T.n_len (by decide +kernel) (pa_cons (pv 6) pa_nil)) pa_nil)) (pg_name (i := 7) sc_law.nd rfl (by first | exact Or.inl rfl | exact Or.inr rfl)) (pss_cons (ps_set (i := 1) sc_law.nd rfl (by first | exact Or.inl rfl | exact Or.inr rfl) (pe_cl c__law_bag hr (by omega) (pa_cons (pe_ix ix_list (pv 6) (pv 7) (fun _ _ => rfl)) pa_nil)))
      (pss_cons (ps_set (i := 8) sc_law.nd rfl (by first | exact Or.inl rfl | exact Or.inr rfl) (pe_cl c__law_rewritten hr (by omega) (pa_cons (pv 1) (pa_cons (pv 5) pa_nil))))
      (pss_cons (ps_if (pt_val (pe_cl c__law_fits hr (by omega) (pa_cons (pv 8) pa_nil))) (pss_one (ps_set (i := 5) sc_law.nd rfl (by first | exact Or.inl rfl | exact Or.inr rfl) (pv 8))) pss_nil)
      (pss_cons (ps_if (PW.pt (pw_or (pt_cmpR op_ne (pe_callB (Pg.call_repr_neat hG hr) (by rfl) T.n_repr (by decide +kernel) (pa_cons (pe_cl c_selection hr (by omega) (pa_cons (pv 5) pa_nil)) pa_nil)) (pv 4) (by first | exact nomark _ | rfl)) (pw_or (pt_cmpR op_notBl (pe_cl c_alike hr (by omega) (pa_cons (pv 3) (pa_cons (pv 5) pa_nil))) pe_bl (by first | exact nomark _ | rfl)) (pw_or1 (pt_cmpR op_notBl (pe_cl c_alike hr (by omega) (pa_cons (pv 5) (pa_cons (pv 3) pa_nil))) pe_bl (by first | exact nomark _ | rfl)))))) (pss_one (ps_ret pe_bl)) pss_nil)
      (pss_cons (ps_if (pt_cmpR op_ne (pe_callB (Pg.call_repr_neat hG hr) (by rfl) T.n_repr (by decide +kernel) (pa_cons (pe_lst (pa_cons (pe_cl c_parting hr (by omega) (pa_cons (pv 5) (pa_cons (pv 3) pa_nil))) (pa_cons (pe_cl c_within hr (by omega) (pa_cons (pv 5) (pa_cons (pv 3) pa_nil))) (pa_cons (pe_cl c_within hr (by omega) (pa_cons (pv 3) (pa_cons (pv 5) pa_nil))) pa_nil)))) pa_nil)) (pe_callB (Pg.call_repr_neat hG hr) (by rfl) T.n_repr (by decide +kernel) (pa_cons (pe_lst (pa_cons (pe_tup pa_nil) (pa_cons pe_bl (pa_cons pe_bl pa_nil)))) pa_nil)) (by first | exact nomark _ | rfl)) (pss_one (ps_ret pe_bl)) pss_nil)
      (pss_cons (ps_set (i := 9) sc_law.nd rfl (by first | exact Or.inl rfl | exact Or.inr rfl) (pe_cl c__law_changed hr (by omega) (pa_cons (pv 1) (pa_cons (pv 5) (pa_cons (pv 2) pa_nil)))))
      (pss_one (ps_if (PW.pt (pw_and (pt_cmpR op_eq (pe_op op_mod (pe_callTy call_int1 (by rfl) T.n_int (by decide +kernel) (pa_cons (pv 7) pa_nil)) pe_int) pe_int (by first | exact nomark _ | rfl)) (pw_and (pt_val (pe_cl c__law_fits hr (by omega) (pa_cons (pv 9) pa_nil))) (pw_and1 (pt_not (pt_val (pe_clG c__law_apart hG hr (by omega) (pa_cons (pv 3) (pa_cons (pv 9) pa_nil))))))))) (pss_one (ps_ret pe_bl)) pss_nil)))))))))
      (pss_one (ps_ret pe_bl))))))), ?_⟩
    have nn : ∀ {x : Addr}, x ∉ ([] : List Addr) := fun m => nomatch m
    have len1 : (1 : Nat) ≤ sizeLine := by decide
    have len2 : (2 : Nat) ≤ sizeLine := by decide
    have len3 : (3 : Nat) ≤ sizeLine := by decide
    have sz : ∀ {n : Nat}, n ≤ 1000 → n ≤ sizeLine := fun h => Nat.le_trans h (by decide)
    -- the first cell
    refine ⟨_, rfl, _, _, rfl, rfl, ⟨by decide, by decide, by decide⟩, _, _, rfl, rfl, len1, fun p2 np2 => ?_⟩
    have S1 : Stp [] H (upd H p2 (.lst [V.int (10 ^ (18 : Int).toNat + 5)])) := Stp.new np2 _
    have h2 : (upd H p2 (.lst [V.int (10 ^ (18 : Int).toNat + 5)])) p2 = some (.lst [V.int (10 ^ (18 : Int).toNat + 5)]) := upd_same
    generalize upd H p2 (.lst [V.int (10 ^ (18 : Int).toNat + 5)]) = H1 at *
    refine ⟨a, p2, _, _, rfl, rfl, sql_up S1 hS, SqL.of h2, sz (by rw [List.length_map]; simp; omega), fun p3 np3 => ?_⟩
    obtain ⟨c0, hc0⟩ : ∃ c0 : Int, atI (ns.map V.int ++ [V.int (10 ^ (18 : Int).toNat + 5)]) 0 = some (.int c0) := by
      cases ns with
      | nil => exact ⟨_, at0⟩
      | cons n ns => exact ⟨n, at0⟩
    have S2 : Stp [] H1 (upd H1 p3 (.lst (ns.map V.int ++ [V.int (10 ^ (18 : Int).toNat + 5)]))) := Stp.new np3 _
    have h3 : (upd H1 p3 (.lst (ns.map V.int ++ [V.int (10 ^ (18 : Int).toNat + 5)]))) p3 = some (.lst (ns.map V.int ++ [V.int (10 ^ (18 : Int).toNat + 5)])) := upd_same
    generalize upd H1 p3 (.lst (ns.map V.int ++ [V.int (10 ^ (18 : Int).toNat + 5)])) = H2 at *
    refine ⟨p3, _, 0, _, rfl, rfl, SqL.of h3, hc0, ?_⟩
    refine ⟨c0, rfl, fun b0 H3 nb0 S3 B0 => ?_⟩
    refine ⟨Nat.zero_le _, fun p np => ⟨_, _, rfl, ?_⟩⟩
    have bp : b0 ≠ p := B0.ne np
    have S03 := (S1.trans S2).trans S3
    have B3 := B0.upd (o := .lst []) bp
    have S4 : Stp [] H3 (upd H3 p (.lst [])) := Stp.new np _
    have h4 : (upd H3 p (.lst [])) p = some (.lst []) := upd_same
    generalize upd H3 p (.lst []) = H4 at *
    -- start
    refine ⟨_, rfl, len2, fun r nr => ?_⟩
    have pr : p ≠ r := ne_of_none h4 nr
    have br : b0 ≠ r := B3.ne nr
    have s0 : Sto 6 (upd H4 r (.lst [.int 7, .int 6])) b0 r p 0 7 6 [] :=
      ⟨B3.upd br, upd_same, ⟨by rw [upd_ne pr]; exact h4, fun l m => nomatch m⟩, br, bp, pr.symm, by decide, by decide⟩
    refine ⟨_, rfl, _, b0, r, p, 0, 7, 6, [], 4, rfl, by decide, by decide, s0, by decide, fun v H5 r0' r1' ls' md h0' S5 s5 => ?_⟩
    obtain ⟨d, rd, fd', dd, td, wd⟩ := md
    have ps0 := s5.pos
    have fw := s5.few
    have pl5 := s5.pool
    have fd1 : Fit d := ⟨⟨fd', td⟩, by omega, by omega⟩
    have hS5 : SqL K H5 a (ns.map V.int) := sql_keep (fun o ho => by
      have h2a := (S1.trans S2).kp _ _ nn ho
      have ab : a ≠ b0 := ne_of_none h2a nb0
      have h3a := S3.kp _ _ nn h2a
      have ap : a ≠ p := ne_of_none h3a np
      have h4a := S4.kp _ _ nn h3a
      have ar : a ≠ r := ne_of_none h4a nr
      refine S5.kp _ _ (fun m => ?_) (by rw [upd_ne ar]; exact h4a)
      simp at m
      rcases m with m | m | m
      · exact ab m
      · exact ar m
      · exact ap m) hS
    -- due, here
    refine ⟨_, rfl, v, d, rfl, fd1.fil rd, by have := fd1.wt; omega, fun t b9 ps H6 S6 ht sp eq => tn (rep_sel ht sp (lak_ans (lev_in 100 none d)) sp.few ?_)⟩
    have okp := sp.ok
    obtain ⟨S, eS⟩ : ∃ S, S = (pyD (selD (ansW (lev 100 none d)) ps)).shown := ⟨_, rfl⟩
    rw [← eS]
    refine ⟨_, rfl, _, _, rfl, ?_⟩
    have S56 := S6
    have pl6 : Pool H6 p ls' := ⟨S6.kp _ _ nn pl5.1, pl5.2⟩
    have rd6 := rd.stp S6 Lsts.nil
    have hS6 := sql_up S6 hS5
    -- cells
    refine ⟨_, rfl, 1, rfl, a, _, rfl, hS6, fun p7 n7 => ?_⟩
    have c7 : cutV (ns.map V.int) (some 1) none = (ns.drop 1).map V.int := by rw [show cutV (ns.map V.int) (some 1) none = _ from cut_from 1, List.map_drop]
    rw [c7]
    have S7 : Stp [] H6 (upd H6 p7 (.lst ((ns.drop 1).map V.int))) := Stp.new n7 _
    have h7 : (upd H6 p7 (.lst ((ns.drop 1).map V.int))) p7 = some (.lst ((ns.drop 1).map V.int)) := upd_same
    generalize upd H6 p7 (.lst ((ns.drop 1).map V.int)) = H7 at *
    refine ⟨4, rfl, by decide, by decide, fun M nM => ?_⟩
    refine lc_mapR (K := K) (n := _) (ds := ((List.range 4).map fun (k : Nat) => (10 : Int) ^ (18 : Int).toNat + 9 + ((0 : Int) + (k : Int))).map Dt.int) nM (by simp) (by decide) (fun j dd H8 hd S8 Q2 q3 => ?_) fun vs8 H8 S8 h8 r8 => ?_
    · rw [List.getElem?_map, List.getElem?_map] at hd
      have hj : j < 4 := by
        by_cases c : j < 4
        · exact c
        · rw [List.getElem?_eq_none (by rw [List.length_range]; omega)] at hd
          cases hd
      rw [List.getElem?_range hj] at hd
      cases hd
      refine ⟨rfl, _, _, rfl, rfl, ⟨by decide, by decide, by decide⟩, _, _, rfl, rfl, _, rfl, _, _, rfl, rfl, q3 _ _ (Stp.refl _ _) (.int _)⟩
    have e8 := rpl_ints r8
    subst e8
    dsimp only
    have l8 := congrArg List.length (rfl : ((List.range 4).map fun (k : Nat) => (10 : Int) ^ (18 : Int).toNat + 9 + ((0 : Int) + (k : Int))) = _)
    refine ⟨p7, M, _, _, rfl, rfl, S8.kp _ _ nn h7, h8, sz (by simp; omega), fun C nC => ?_⟩
    obtain ⟨cs, ecs, lcs⟩ : ∃ cs : List Int, (ns.drop 1).map V.int ++ ((List.range 4).map fun (k : Nat) => (10 : Int) ^ (18 : Int).toNat + 9 + ((0 : Int) + (k : Int))).map V.int = cs.map V.int ∧ cs.length ≤ 67 := ⟨ns.drop 1 ++ _, by rw [List.map_append], by simp; omega⟩
    rw [ecs]
    have S9 : Stp [] H8 (upd H8 C (.lst (cs.map V.int))) := Stp.new nC _
    have h9 : (upd H8 C (.lst (cs.map V.int))) C = some (.lst (cs.map V.int)) := upd_same
    have hp8 := (S7.trans S8).kp _ _ nn pl6.1
    have Cp : p ≠ C := ne_of_none hp8 nC
    generalize upd H8 C (.lst (cs.map V.int)) = H9 at *
    have S69 := (S7.trans S8).trans S9
    have pl9 : Pool H9 p ls' := ⟨S69.kp _ _ nn pl6.1, pl6.2⟩
    have rd9 := rd6.stp S69 Lsts.nil
    have dw := fd1.wt
    have dd1 := fd1.dp
    refine ⟨_, rfl, C, _, rfl, .inl (SqL.of h9), _, rfl, by rw [List.length_map]; omega, by rw [List.length_map]; omega, for_range (lo := 0) (n := (cs.map V.int).length) (fun i σ H' => ∃ (x1 x7 x8 x9 : Option V) (u : V) (e : Dt) (ls : List (List Nat)), σ = [some (.ref a), x1, some (.ref p), some v, some (.str S), some u, some (.ref C), x7, x8, x9] ∧ H' C = some (.lst (cs.map V.int)) ∧ Pool H' p ls ∧ ls.length ≤ 6 + 2 * i ∧ Rp K H' v d ∧ Rp K H' u e ∧ Fit e ∧ Same d e) ⟨_, _, _, _, v, d, ls', rfl, h9, pl9, by omega, rd9, rd9, fd1, Same.rfl' d⟩ ?_ ?_⟩
    · rintro i σ H1 hi ⟨x1, x7, x8, x9, u, e, ls, rfl, hC, pl, few, rv, ru, fe, sm⟩
      rw [List.length_map] at hi
      rw [Int.zero_add]
      obtain ⟨c, hc⟩ : ∃ c, (cs.map V.int)[i]? = some (.int c) := ⟨cs[i], by rw [List.getElem?_map, List.getElem?_eq_getElem hi]; rfl⟩
      refine ⟨_, rfl, _, rfl, C, _, _, _, rfl, rfl, SqL.of hC, atI_nat hc, ?_⟩
      refine ⟨c, rfl, fun b H2 nb S2 B2 => ?_⟩
      have bC : C ≠ b := ne_of_none hC nb
      have pb : p ≠ b := ne_of_none pl.1 nb
      have hC2 := S2.kp _ _ nn hC
      have pl2 : Pool H2 p ls := ⟨S2.kp _ _ nn pl.1, pl.2⟩
      have rv2 := rv.stp S2 Lsts.nil
      have ru2 := ru.stp S2 Lsts.nil
      have ew := fe.wt
      have ed := fe.dp
      -- maybe
      refine ⟨_, rfl, _, rfl, b, u, e, 0, rfl, B2, by decide, by decide, ru2, fe.fi, by omega, by omega, by omega, fun v' d' H3 S3 B3 rew => ?_⟩
      have rw1 := rew.wt
      have rd1 := rew.dp
      have lb2 : Lsts H2 [b] := Pv.bag_ls B2
      have rv3 := rv2.stp S3 lb2
      have ru3 := ru2.stp S3 lb2
      have hC3 := S3.kp _ _ (fun m => bC (List.mem_singleton.mp m)) hC2
      have pl3 : Pool H3 p ls := ⟨S3.kp _ _ (fun m => pb (List.mem_singleton.mp m)) pl2.1, pl2.2⟩
      dsimp only [tNext]
      refine seq_end (fun σ H' => ∃ (u' : V) (e' : Dt), σ = [some (.ref a), some (.ref b), some (.ref p), some v, some (.str S), some u', some (.ref C), some (.int (i : Int)), some v', x9] ∧ Stp [] H3 H' ∧ Rp K H' u' e' ∧ Fit e' ∧ Same d e') ?_ (fun fin => ?_)
      rotate_left
      · refine ⟨_, rfl, v', d', rfl, rew.rp, rew.fi, by omega, by omega, fun bb H4 S4 hb => ⟨_, rfl, ite2 (fun h => ?_) (fun _ => ?_)⟩⟩
        · obtain ⟨w9, d9⟩ := hb h
          exact ⟨_, rfl, fin _ _ ⟨v', d', rfl, S4, rew.rp.stp S4 Lsts.nil, ⟨rew.fi, by omega, by omega⟩, fun t ht => (rew.sm t ht).trans (sm t ht)⟩⟩
        · exact fin _ _ ⟨u, e, rfl, S4, ru3.stp S4 Lsts.nil, fe, sm⟩
      rintro σ H4 ⟨u', e', rfl, S4, ru4, fe4, sm4⟩
      have ew4 := fe4.wt
      have ed4 := fe4.dp
      have Fd : Fil K 100 H4 v d := (fd1.fil rv3).up S4
      have Fe : Fil K 100 H4 u' e' := fe4.fil ru4
      have eL : lev 100 none e' = lev 100 none d := lev_same sm4 (by omega) (by omega) (fun x e => by cases e)
      have eY : ∀ w, Abc w → yesB 100 e' w = yesB 100 d w := fun w aw => by
        unfold yesB
        rw [lev_same sm4 (by omega) (by omega) (t := some w) (fun x e => by cases e; exact aw)]
      -- selection
      refine ⟨_, rfl, u', e', rfl, Fe, fun t5 b5 qs H5 S5 ht5 sp5 eq5 lq => tn (rep_sel ht5 sp5 (lak_ans (lev_in 100 none e')) sp5.few ?_)⟩
      obtain rfl : qs = ps := span_uniqA sp5.ok okp fun w aw => by rw [eq5 w aw, eY w aw, eq w aw]
      rw [eL, ← eS]
      refine ⟨_, rfl, rfl, _, rfl, ?_⟩
      rw [show (!decide (V.str S = V.str S)) = false by simp]
      refine ite2 (fun h => nomatch h) (fun _ => ?_)
      have Fd5 := Fd.up S5
      have Fe5 := Fe.up S5
      refine ⟨_, rfl, _, rfl, v, u', d, e', rfl, Fd5, Fe5, fun b6 H6 S6 hb6 => ?_⟩
      obtain rfl : b6 = true := hb6.mpr ⟨eL.symm, fun w aw => (eY w aw).symm⟩
      refine ⟨true, true, rfl, rfl, _, rfl, ite2 (fun h => nomatch h) (fun _ => ?_)⟩
      refine ⟨_, rfl, _, rfl, u', v, e', d, rfl, Fe5.up S6, Fd5.up S6, fun b7 H7 S7 hb7 => ?_⟩
      obtain rfl : b7 = true := hb7.mpr ⟨eL, eY⟩
      refine ⟨true, true, rfl, rfl, _, rfl, ite2 (fun h => nomatch h) (fun _ => ?_)⟩
      have S57 := S6.trans S7
      have Fd7 := Fd5.up S57
      have Fe7 := Fe5.up S57
      -- parted, within
      refine ⟨_, rfl, _, rfl, u', v, e', d, rfl, Fe7, Fd7, by omega, by omega, fun t8 rs H8 S8 hr8 pt8 => ?_⟩
      obtain rfl : rs = [] := part_uniq pt8 (show PartOf 100 e' d [] from ⟨by rw [eL], eY⟩)
      refine ⟨_, rfl, _, rfl, u', v, e', d, rfl, Fe7.up S8, Fd7.up S8, by omega, by omega, fun b9 H9 S9 hb9 => ?_⟩
      obtain rfl : b9 = true := hb9.mpr ⟨fun h => by rw [← eL]; exact h, fun w aw h => by rw [← eY w aw]; exact h⟩
      have S79 := S8.trans S9
      refine ⟨_, rfl, _, rfl, v, u', d, e', rfl, Fd7.up S79, Fe7.up S79, by omega, by omega, fun b10 H10 S10 hb10 => ?_⟩
      obtain rfl : b10 = true := hb10.mpr ⟨fun h => by rw [eL]; exact h, fun w aw h => by rw [eY w aw]; exact h⟩
      refine ⟨len3, fun q nq => ?_⟩
      have S11 : Stp [] H10 (upd H10 q (.lst [.ref t8, .bl true, .bl true])) := Stp.new nq _
      refine tn (rep_three (SqL.of upd_same) (sqt_stp ((S9.trans S10).trans S11) Lsts.nil hr8) ?_)
      generalize upd H10 q (.lst [.ref t8, .bl true, .bl true]) = H11 at *
      refine ⟨Nat.zero_le _, fun q1 n1 => ?_⟩
      have S12 : Stp [] H11 (upd H11 q1 (.tup [])) := Stp.new n1 _
      have hq1 : (upd H11 q1 (.tup [])) q1 = some (.tup []) := upd_same
      generalize upd H11 q1 (.tup []) = H12 at *
      refine ⟨len3, fun q2 n2 => ?_⟩
      have S13 : Stp [] H12 (upd H12 q2 (.lst [.ref q1, .bl true, .bl true])) := Stp.new n2 _
      refine tn (rep_three (SqL.of upd_same) (SqT.of (S13.kp _ _ nn hq1)) ?_)
      generalize upd H12 q2 (.lst [.ref q1, .bl true, .bl true]) = H13 at *
      refine ⟨rfl, _, rfl, ite2 (fun h => absurd h (by simp)) (fun _ => ?_)⟩
      have S713 := ((((S79.trans S10).trans S11).trans S12).trans S13)
      have S313 := ((S4.trans S5).trans S57).trans S713
      have B13 := B3.kp S313 nn
      have pl13 : Pool H13 p ls := ⟨S313.kp _ _ nn pl3.1, pl3.2⟩
      have hC13 := S313.kp _ _ nn hC3
      have rv13 := rv3.stp S313 Lsts.nil
      have ru13 := Fe7.rp.stp S713 Lsts.nil
      -- odd
      refine ⟨_, rfl, _, rfl, _, rfl, b, p, u', e', _, ls, rfl, B13, by decide, by decide, pl13, by omega, pb.symm, ru13, fe4.fi, by omega, by omega, by omega, fun v9 d9 ls9 H14 S14 B14 pl14 l14 chg => ?_⟩
      have cw := chg.wt
      have cd := chg.dp
      have hC14 := S14.kp _ _ (fun m => by
        simp at m
        rcases m with m | m
        · exact bC m
        · exact Cp m.symm) hC13
      have lb13 : Lsts H13 [b, p] := by
        obtain ⟨x, y, z, hb, _⟩ := B13
        exact .cons hb (.one pl13.1)
      have rv14 := rv13.stp S14 lb13
      have ru14 := ru13.stp S14 lb13
      have fin : ∀ {H' : Hp}, Stp [] H14 H' → ∃ (x1 x7 x8 x9 : Option V) (u : V) (e : Dt) (ls : List (List Nat)), [some (.ref a), some (.ref b), some (.ref p), some v, some (.str S), some u', some (.ref C), some (.int (i : Int)), some v', some v9] = [some (.ref a), x1, some (.ref p), some v, some (.str S), some u, some (.ref C), x7, x8, x9] ∧ H' C = some (.lst (cs.map V.int)) ∧ Pool H' p ls ∧ ls.length ≤ 6 + 2 * (i + 1) ∧ Rp K H' v d ∧ Rp K H' u e ∧ Fit e ∧ Same d e := fun {H'} S => ⟨_, _, _, _, u', e', ls9, rfl, S.kp _ _ nn hC14, ⟨S.kp _ _ nn pl14.1, pl14.2⟩, by omega, rv14.stp S Lsts.nil, ru14.stp S Lsts.nil, fe4, sm4⟩
      refine ⟨_, rfl, tn (.inl ⟨_, rfl, ?_⟩)⟩
      refine ⟨_, _, rfl, rfl, (show (0 : Int) < 3 by decide), rfl, _, rfl, ite2 (fun _ => ?_) (fun _ => ite2 (fun h => nomatch h) (fun _ => fin (Stp.refl _ _)))⟩
      refine ⟨_, rfl, v9, d9, rfl, chg.rp, chg.fi, by omega, by omega, fun bb H15 S15 hb => ⟨_, rfl, ite2 (fun h => ?_) (fun _ => ite2 (fun h => nomatch h) (fun _ => fin S15))⟩⟩
      obtain ⟨w9, d9b⟩ := hb h
      refine ⟨_, rfl, _, rfl, v, v9, d, d9, rfl, rv14.stp S15 Lsts.nil, fd1, chg.rp.stp S15 Lsts.nil, ⟨chg.fi, by omega, by omega⟩, fun H16 S16 => ?_⟩
      refine ⟨_, rfl, ite2 (fun h => nomatch h) (fun _ => fin (S15.trans S16))⟩
    · rintro σ H1 ⟨x1, x7, x8, x9, u, e, ls, rfl, _⟩
      exact k _
/-! ### what the top has written, the head -/
theorem all_mk {l : PySem.W.OpenLaw} {w : World} {K : PySem.W.Frag} {h : Heap} {mg : Str → Option Value} {fa : Addr} (X : K.In h) (G : h.Ns mainGlobals mg) (hfa : mg "law" = some (.ref fa))
    {f0 : Addr} {od0 an0 : Option Addr} {sl0 : Array (Option Value)} {oc0 kV0 dc0 pm0 cd0 ct0 : Value}
    (a0 : PySem.W.nsIn K mainGlobals "is_text" = some (some (.ref f0))) (l0 : K.lookup f0 = some ⟨oc0, od0, .func (PySem.W.fnOf "is_text" "is_text" (defArgs s_is_text) (defBody s_is_text) (defScope s_is_text) .none kV0 dc0 pm0 an0 cd0 ct0), sl0⟩) (c0 : PySem.W.codeIn K cd0 "is_text" = true) (k0 : PySem.W.keepIn K (.ref f0) = true)
    {f1 : Addr} {od1 an1 : Option Addr} {sl1 : Array (Option Value)} {oc1 kV1 dc1 pm1 cd1 ct1 : Value}
    (a1 : PySem.W.nsIn K mainGlobals "is_range" = some (some (.ref f1))) (l1 : K.lookup f1 = some ⟨oc1, od1, .func (PySem.W.fnOf "is_range" "is_range" (defArgs s_is_range) (defBody s_is_range) (defScope s_is_range) .none kV1 dc1 pm1 an1 cd1 ct1), sl1⟩) (c1 : PySem.W.codeIn K cd1 "is_range" = true) (k1 : PySem.W.keepIn K (.ref f1) = true)
    {f2 : Addr} {od2 an2 : Option Addr} {sl2 : Array (Option Value)} {oc2 kV2 dc2 pm2 cd2 ct2 : Value}
    (a2 : PySem.W.nsIn K mainGlobals "is_span" = some (some (.ref f2))) (l2 : K.lookup f2 = some ⟨oc2, od2, .func (PySem.W.fnOf "is_span" "is_span" (defArgs s_is_span) (defBody s_is_span) (defScope s_is_span) .none kV2 dc2 pm2 an2 cd2 ct2), sl2⟩) (c2 : PySem.W.codeIn K cd2 "is_span" = true) (k2 : PySem.W.keepIn K (.ref f2) = true)
    {f3 : Addr} {od3 an3 : Option Addr} {sl3 : Array (Option Value)} {oc3 kV3 dc3 pm3 cd3 ct3 : Value}
    (a3 : PySem.W.nsIn K mainGlobals "reaches" = some (some (.ref f3))) (l3 : K.lookup f3 = some ⟨oc3, od3, .func (PySem.W.fnOf "reaches" "reaches" (defArgs s_reaches) (defBody s_reaches) (defScope s_reaches) .none kV3 dc3 pm3 an3 cd3 ct3), sl3⟩) (c3 : PySem.W.codeIn K cd3 "reaches" = true) (k3 : PySem.W.keepIn K (.ref f3) = true)
    {f4 : Addr} {od4 an4 : Option Addr} {sl4 : Array (Option Value)} {oc4 kV4 dc4 pm4 cd4 ct4 : Value}
    (a4 : PySem.W.nsIn K mainGlobals "check_text" = some (some (.ref f4))) (l4 : K.lookup f4 = some ⟨oc4, od4, .func (PySem.W.fnOf "check_text" "check_text" (defArgs s_check_text) (defBody s_check_text) (defScope s_check_text) .none kV4 dc4 pm4 an4 cd4 ct4), sl4⟩) (c4 : PySem.W.codeIn K cd4 "check_text" = true) (k4 : PySem.W.keepIn K (.ref f4) = true)
    {f5 : Addr} {od5 an5 : Option Addr} {sl5 : Array (Option Value)} {oc5 kV5 dc5 pm5 cd5 ct5 : Value}
    (a5 : PySem.W.nsIn K mainGlobals "check_span" = some (some (.ref f5))) (l5 : K.lookup f5 = some ⟨oc5, od5, .func (PySem.W.fnOf "check_span" "check_span" (defArgs s_check_span) (defBody s_check_span) (defScope s_check_span) .none kV5 dc5 pm5 an5 cd5 ct5), sl5⟩) (c5 : PySem.W.codeIn K cd5 "check_span" = true) (k5 : PySem.W.keepIn K (.ref f5) = true)
    {f6 : Addr} {od6 an6 : Option Addr} {sl6 : Array (Option Value)} {oc6 kV6 dc6 pm6 cd6 ct6 : Value}
    (a6 : PySem.W.nsIn K mainGlobals "check_ranges" = some (some (.ref f6))) (l6 : K.lookup f6 = some ⟨oc6, od6, .func (PySem.W.fnOf "check_ranges" "check_ranges" (defArgs s_check_ranges) (defBody s_check_ranges) (defScope s_check_ranges) .none kV6 dc6 pm6 an6 cd6 ct6), sl6⟩) (c6 : PySem.W.codeIn K cd6 "check_ranges" = true) (k6 : PySem.W.keepIn K (.ref f6) = true)
    {f7 : Addr} {od7 an7 : Option Addr} {sl7 : Array (Option Value)} {oc7 kV7 dc7 pm7 cd7 ct7 : Value}
    (a7 : PySem.W.nsIn K mainGlobals "behind" = some (some (.ref f7))) (l7 : K.lookup f7 = some ⟨oc7, od7, .func (PySem.W.fnOf "behind" "behind" (defArgs s_behind) (defBody s_behind) (defScope s_behind) .none kV7 dc7 pm7 an7 cd7 ct7), sl7⟩) (c7 : PySem.W.codeIn K cd7 "behind" = true) (k7 : PySem.W.keepIn K (.ref f7) = true)
    {f8 : Addr} {od8 an8 : Option Addr} {sl8 : Array (Option Value)} {oc8 kV8 dc8 pm8 cd8 ct8 : Value}
    (a8 : PySem.W.nsIn K mainGlobals "beyond" = some (some (.ref f8))) (l8 : K.lookup f8 = some ⟨oc8, od8, .func (PySem.W.fnOf "beyond" "beyond" (defArgs s_beyond) (defBody s_beyond) (defScope s_beyond) .none kV8 dc8 pm8 an8 cd8 ct8), sl8⟩) (c8 : PySem.W.codeIn K cd8 "beyond" = true) (k8 : PySem.W.keepIn K (.ref f8) = true)
    {f9 : Addr} {od9 an9 : Option Addr} {sl9 : Array (Option Value)} {oc9 kV9 dc9 pm9 cd9 ct9 : Value}
    (a9 : PySem.W.nsIn K mainGlobals "later_end" = some (some (.ref f9))) (l9 : K.lookup f9 = some ⟨oc9, od9, .func (PySem.W.fnOf "later_end" "later_end" (defArgs s_later_end) (defBody s_later_end) (defScope s_later_end) .none kV9 dc9 pm9 an9 cd9 ct9), sl9⟩) (c9 : PySem.W.codeIn K cd9 "later_end" = true) (k9 : PySem.W.keepIn K (.ref f9) = true)
    {f10 : Addr} {od10 an10 : Option Addr} {sl10 : Array (Option Value)} {oc10 kV10 dc10 pm10 cd10 ct10 : Value}
    (a10 : PySem.W.nsIn K mainGlobals "ascending" = some (some (.ref f10))) (l10 : K.lookup f10 = some ⟨oc10, od10, .func (PySem.W.fnOf "ascending" "ascending" (defArgs s_ascending) (defBody s_ascending) (defScope s_ascending) .none kV10 dc10 pm10 an10 cd10 ct10), sl10⟩) (c10 : PySem.W.codeIn K cd10 "ascending" = true) (k10 : PySem.W.keepIn K (.ref f10) = true)
    {f11 : Addr} {od11 an11 : Option Addr} {sl11 : Array (Option Value)} {oc11 kV11 dc11 pm11 cd11 ct11 : Value}
    (a11 : PySem.W.nsIn K mainGlobals "span_of" = some (some (.ref f11))) (l11 : K.lookup f11 = some ⟨oc11, od11, .func (PySem.W.fnOf "span_of" "span_of" (defArgs s_span_of) (defBody s_span_of) (defScope s_span_of) .none kV11 dc11 pm11 an11 cd11 ct11), sl11⟩) (c11 : PySem.W.codeIn K cd11 "span_of" = true) (k11 : PySem.W.keepIn K (.ref f11) = true)
    {f12 : Addr} {od12 an12 : Option Addr} {sl12 : Array (Option Value)} {oc12 kV12 dc12 pm12 cd12 ct12 : Value}
    (a12 : PySem.W.nsIn K mainGlobals "opposite" = some (some (.ref f12))) (l12 : K.lookup f12 = some ⟨oc12, od12, .func (PySem.W.fnOf "opposite" "opposite" (defArgs s_opposite) (defBody s_opposite) (defScope s_opposite) .none kV12 dc12 pm12 an12 cd12 ct12), sl12⟩) (c12 : PySem.W.codeIn K cd12 "opposite" = true) (k12 : PySem.W.keepIn K (.ref f12) = true)
    {f13 : Addr} {od13 an13 : Option Addr} {sl13 : Array (Option Value)} {oc13 kV13 dc13 pm13 cd13 ct13 : Value}
    (a13 : PySem.W.nsIn K mainGlobals "joined" = some (some (.ref f13))) (l13 : K.lookup f13 = some ⟨oc13, od13, .func (PySem.W.fnOf "joined" "joined" (defArgs s_joined) (defBody s_joined) (defScope s_joined) .none kV13 dc13 pm13 an13 cd13 ct13), sl13⟩) (c13 : PySem.W.codeIn K cd13 "joined" = true) (k13 : PySem.W.keepIn K (.ref f13) = true)
    {f14 : Addr} {od14 an14 : Option Addr} {sl14 : Array (Option Value)} {oc14 kV14 dc14 pm14 cd14 ct14 : Value}
    (a14 : PySem.W.nsIn K mainGlobals "shared" = some (some (.ref f14))) (l14 : K.lookup f14 = some ⟨oc14, od14, .func (PySem.W.fnOf "shared" "shared" (defArgs s_shared) (defBody s_shared) (defScope s_shared) .none kV14 dc14 pm14 an14 cd14 ct14), sl14⟩) (c14 : PySem.W.codeIn K cd14 "shared" = true) (k14 : PySem.W.keepIn K (.ref f14) = true)
    {f15 : Addr} {od15 an15 : Option Addr} {sl15 : Array (Option Value)} {oc15 kV15 dc15 pm15 cd15 ct15 : Value}
    (a15 : PySem.W.nsIn K mainGlobals "least_text" = some (some (.ref f15))) (l15 : K.lookup f15 = some ⟨oc15, od15, .func (PySem.W.fnOf "least_text" "least_text" (defArgs s_least_text) (defBody s_least_text) (defScope s_least_text) .none kV15 dc15 pm15 an15 cd15 ct15), sl15⟩) (c15 : PySem.W.codeIn K cd15 "least_text" = true) (k15 : PySem.W.keepIn K (.ref f15) = true)
    {f16 : Addr} {od16 an16 : Option Addr} {sl16 : Array (Option Value)} {oc16 kV16 dc16 pm16 cd16 ct16 : Value}
    (a16 : PySem.W.nsIn K mainGlobals "is_filter" = some (some (.ref f16))) (l16 : K.lookup f16 = some ⟨oc16, od16, .func (PySem.W.fnOf "is_filter" "is_filter" (defArgs s_is_filter) (defBody s_is_filter) (defScope s_is_filter) .none kV16 dc16 pm16 an16 cd16 ct16), sl16⟩) (c16 : PySem.W.codeIn K cd16 "is_filter" = true) (k16 : PySem.W.keepIn K (.ref f16) = true)
    {f17 : Addr} {od17 an17 : Option Addr} {sl17 : Array (Option Value)} {oc17 kV17 dc17 pm17 cd17 ct17 : Value}
    (a17 : PySem.W.nsIn K mainGlobals "can_follow" = some (some (.ref f17))) (l17 : K.lookup f17 = some ⟨oc17, od17, .func (PySem.W.fnOf "can_follow" "can_follow" (defArgs s_can_follow) (defBody s_can_follow) (defScope s_can_follow) .none kV17 dc17 pm17 an17 cd17 ct17), sl17⟩) (c17 : PySem.W.codeIn K cd17 "can_follow" = true) (k17 : PySem.W.keepIn K (.ref f17) = true)
    {f18 : Addr} {od18 an18 : Option Addr} {sl18 : Array (Option Value)} {oc18 kV18 dc18 pm18 cd18 ct18 : Value}
    (a18 : PySem.W.nsIn K mainGlobals "check_filter" = some (some (.ref f18))) (l18 : K.lookup f18 = some ⟨oc18, od18, .func (PySem.W.fnOf "check_filter" "check_filter" (defArgs s_check_filter) (defBody s_check_filter) (defScope s_check_filter) .none kV18 dc18 pm18 an18 cd18 ct18), sl18⟩) (c18 : PySem.W.codeIn K cd18 "check_filter" = true) (k18 : PySem.W.keepIn K (.ref f18) = true)
    {f19 : Addr} {od19 an19 : Option Addr} {sl19 : Array (Option Value)} {oc19 kV19 dc19 pm19 cd19 ct19 : Value}
    (a19 : PySem.W.nsIn K mainGlobals "answer_to" = some (some (.ref f19))) (l19 : K.lookup f19 = some ⟨oc19, od19, .func (PySem.W.fnOf "answer_to" "answer_to" (defArgs s_answer_to) (defBody s_answer_to) (defScope s_answer_to) .none kV19 dc19 pm19 an19 cd19 ct19), sl19⟩) (c19 : PySem.W.codeIn K cd19 "answer_to" = true) (k19 : PySem.W.keepIn K (.ref f19) = true)
    {f20 : Addr} {od20 an20 : Option Addr} {sl20 : Array (Option Value)} {oc20 kV20 dc20 pm20 cd20 ct20 : Value}
    (a20 : PySem.W.nsIn K mainGlobals "yes_or_no" = some (some (.ref f20))) (l20 : K.lookup f20 = some ⟨oc20, od20, .func (PySem.W.fnOf "yes_or_no" "yes_or_no" (defArgs s_yes_or_no) (defBody s_yes_or_no) (defScope s_yes_or_no) .none kV20 dc20 pm20 an20 cd20 ct20), sl20⟩) (c20 : PySem.W.codeIn K cd20 "yes_or_no" = true) (k20 : PySem.W.keepIn K (.ref f20) = true)
    {f21 : Addr} {od21 an21 : Option Addr} {sl21 : Array (Option Value)} {oc21 kV21 dc21 pm21 cd21 ct21 : Value}
    (a21 : PySem.W.nsIn K mainGlobals "settled" = some (some (.ref f21))) (l21 : K.lookup f21 = some ⟨oc21, od21, .func (PySem.W.fnOf "settled" "settled" (defArgs s_settled) (defBody s_settled) (defScope s_settled) .none kV21 dc21 pm21 an21 cd21 ct21), sl21⟩) (c21 : PySem.W.codeIn K cd21 "settled" = true) (k21 : PySem.W.keepIn K (.ref f21) = true)
    {f22 : Addr} {od22 an22 : Option Addr} {sl22 : Array (Option Value)} {oc22 kV22 dc22 pm22 cd22 ct22 : Value}
    (a22 : PySem.W.nsIn K mainGlobals "matches" = some (some (.ref f22))) (l22 : K.lookup f22 = some ⟨oc22, od22, .func (PySem.W.fnOf "matches" "matches" (defArgs s_matches) (defBody s_matches) (defScope s_matches) .none kV22 dc22 pm22 an22 cd22 ct22), sl22⟩) (c22 : PySem.W.codeIn K cd22 "matches" = true) (k22 : PySem.W.keepIn K (.ref f22) = true)
    {f23 : Addr} {od23 an23 : Option Addr} {sl23 : Array (Option Value)} {oc23 kV23 dc23 pm23 cd23 ct23 : Value}
    (a23 : PySem.W.nsIn K mainGlobals "selection" = some (some (.ref f23))) (l23 : K.lookup f23 = some ⟨oc23, od23, .func (PySem.W.fnOf "selection" "selection" (defArgs s_selection) (defBody s_selection) (defScope s_selection) .none kV23 dc23 pm23 an23 cd23 ct23), sl23⟩) (c23 : PySem.W.codeIn K cd23 "selection" = true) (k23 : PySem.W.keepIn K (.ref f23) = true)
    {f24 : Addr} {od24 an24 : Option Addr} {sl24 : Array (Option Value)} {oc24 kV24 dc24 pm24 cd24 ct24 : Value}
    (a24 : PySem.W.nsIn K mainGlobals "passing_texts" = some (some (.ref f24))) (l24 : K.lookup f24 = some ⟨oc24, od24, .func (PySem.W.fnOf "passing_texts" "passing_texts" (defArgs s_passing_texts) (defBody s_passing_texts) (defScope s_passing_texts) .none kV24 dc24 pm24 an24 cd24 ct24), sl24⟩) (c24 : PySem.W.codeIn K cd24 "passing_texts" = true) (k24 : PySem.W.keepIn K (.ref f24) = true)
    {f25 : Addr} {od25 an25 : Option Addr} {sl25 : Array (Option Value)} {oc25 kV25 dc25 pm25 cd25 ct25 : Value}
    (a25 : PySem.W.nsIn K mainGlobals "joined_all" = some (some (.ref f25))) (l25 : K.lookup f25 = some ⟨oc25, od25, .func (PySem.W.fnOf "joined_all" "joined_all" (defArgs s_joined_all) (defBody s_joined_all) (defScope s_joined_all) .none kV25 dc25 pm25 an25 cd25 ct25), sl25⟩) (c25 : PySem.W.codeIn K cd25 "joined_all" = true) (k25 : PySem.W.keepIn K (.ref f25) = true)
    {f26 : Addr} {od26 an26 : Option Addr} {sl26 : Array (Option Value)} {oc26 kV26 dc26 pm26 cd26 ct26 : Value}
    (a26 : PySem.W.nsIn K mainGlobals "matching_texts" = some (some (.ref f26))) (l26 : K.lookup f26 = some ⟨oc26, od26, .func (PySem.W.fnOf "matching_texts" "matching_texts" (defArgs s_matching_texts) (defBody s_matching_texts) (defScope s_matching_texts) .none kV26 dc26 pm26 an26 cd26 ct26), sl26⟩) (c26 : PySem.W.codeIn K cd26 "matching_texts" = true) (k26 : PySem.W.keepIn K (.ref f26) = true)
    {f27 : Addr} {od27 an27 : Option Addr} {sl27 : Array (Option Value)} {oc27 kV27 dc27 pm27 cd27 ct27 : Value}
    (a27 : PySem.W.nsIn K mainGlobals "alike" = some (some (.ref f27))) (l27 : K.lookup f27 = some ⟨oc27, od27, .func (PySem.W.fnOf "alike" "alike" (defArgs s_alike) (defBody s_alike) (defScope s_alike) .none kV27 dc27 pm27 an27 cd27 ct27), sl27⟩) (c27 : PySem.W.codeIn K cd27 "alike" = true) (k27 : PySem.W.keepIn K (.ref f27) = true)
    {f28 : Addr} {od28 an28 : Option Addr} {sl28 : Array (Option Value)} {oc28 kV28 dc28 pm28 cd28 ct28 : Value}
    (a28 : PySem.W.nsIn K mainGlobals "parting" = some (some (.ref f28))) (l28 : K.lookup f28 = some ⟨oc28, od28, .func (PySem.W.fnOf "parting" "parting" (defArgs s_parting) (defBody s_parting) (defScope s_parting) .none kV28 dc28 pm28 an28 cd28 ct28), sl28⟩) (c28 : PySem.W.codeIn K cd28 "parting" = true) (k28 : PySem.W.keepIn K (.ref f28) = true)
    {f29 : Addr} {od29 an29 : Option Addr} {sl29 : Array (Option Value)} {oc29 kV29 dc29 pm29 cd29 ct29 : Value}
    (a29 : PySem.W.nsIn K mainGlobals "within" = some (some (.ref f29))) (l29 : K.lookup f29 = some ⟨oc29, od29, .func (PySem.W.fnOf "within" "within" (defArgs s_within) (defBody s_within) (defScope s_within) .none kV29 dc29 pm29 an29 cd29 ct29), sl29⟩) (c29 : PySem.W.codeIn K cd29 "within" = true) (k29 : PySem.W.keepIn K (.ref f29) = true)
    {f30 : Addr} {od30 an30 : Option Addr} {sl30 : Array (Option Value)} {oc30 kV30 dc30 pm30 cd30 ct30 : Value}
    (a30 : PySem.W.nsIn K mainGlobals "passes" = some (some (.ref f30))) (l30 : K.lookup f30 = some ⟨oc30, od30, .func (PySem.W.fnOf "passes" "passes" (defArgs s_passes) (defBody s_passes) (defScope s_passes) .none kV30 dc30 pm30 an30 cd30 ct30), sl30⟩) (c30 : PySem.W.codeIn K cd30 "passes" = true) (k30 : PySem.W.keepIn K (.ref f30) = true)
    {f31 : Addr} {od31 an31 : Option Addr} {sl31 : Array (Option Value)} {oc31 kV31 dc31 pm31 cd31 ct31 : Value}
    (a31 : PySem.W.nsIn K mainGlobals "_law_bag" = some (some (.ref f31))) (l31 : K.lookup f31 = some ⟨oc31, od31, .func (PySem.W.fnOf "_law_bag" "_law_bag" (defArgs s__law_bag) (defBody s__law_bag) (defScope s__law_bag) .none kV31 dc31 pm31 an31 cd31 ct31), sl31⟩) (c31 : PySem.W.codeIn K cd31 "_law_bag" = true) (k31 : PySem.W.keepIn K (.ref f31) = true)
    {f32 : Addr} {od32 an32 : Option Addr} {sl32 : Array (Option Value)} {oc32 kV32 dc32 pm32 cd32 ct32 : Value}
    (a32 : PySem.W.nsIn K mainGlobals "_law_draw" = some (some (.ref f32))) (l32 : K.lookup f32 = some ⟨oc32, od32, .func (PySem.W.fnOf "_law_draw" "_law_draw" (defArgs s__law_draw) (defBody s__law_draw) (defScope s__law_draw) .none kV32 dc32 pm32 an32 cd32 ct32), sl32⟩) (c32 : PySem.W.codeIn K cd32 "_law_draw" = true) (k32 : PySem.W.keepIn K (.ref f32) = true)
    {f33 : Addr} {od33 an33 : Option Addr} {sl33 : Array (Option Value)} {oc33 kV33 dc33 pm33 cd33 ct33 : Value}
    (a33 : PySem.W.nsIn K mainGlobals "_law_text" = some (some (.ref f33))) (l33 : K.lookup f33 = some ⟨oc33, od33, .func (PySem.W.fnOf "_law_text" "_law_text" (defArgs s__law_text) (defBody s__law_text) (defScope s__law_text) .none kV33 dc33 pm33 an33 cd33 ct33), sl33⟩) (c33 : PySem.W.codeIn K cd33 "_law_text" = true) (k33 : PySem.W.keepIn K (.ref f33) = true)
    {f34 : Addr} {od34 an34 : Option Addr} {sl34 : Array (Option Value)} {oc34 kV34 dc34 pm34 cd34 ct34 : Value}
    (a34 : PySem.W.nsIn K mainGlobals "_law_near" = some (some (.ref f34))) (l34 : K.lookup f34 = some ⟨oc34, od34, .func (PySem.W.fnOf "_law_near" "_law_near" (defArgs s__law_near) (defBody s__law_near) (defScope s__law_near) .none kV34 dc34 pm34 an34 cd34 ct34), sl34⟩) (c34 : PySem.W.codeIn K cd34 "_law_near" = true) (k34 : PySem.W.keepIn K (.ref f34) = true)
    {f35 : Addr} {od35 an35 : Option Addr} {sl35 : Array (Option Value)} {oc35 kV35 dc35 pm35 cd35 ct35 : Value}
    (a35 : PySem.W.nsIn K mainGlobals "_law_past" = some (some (.ref f35))) (l35 : K.lookup f35 = some ⟨oc35, od35, .func (PySem.W.fnOf "_law_past" "_law_past" (defArgs s__law_past) (defBody s__law_past) (defScope s__law_past) .none kV35 dc35 pm35 an35 cd35 ct35), sl35⟩) (c35 : PySem.W.codeIn K cd35 "_law_past" = true) (k35 : PySem.W.keepIn K (.ref f35) = true)
    {f36 : Addr} {od36 an36 : Option Addr} {sl36 : Array (Option Value)} {oc36 kV36 dc36 pm36 cd36 ct36 : Value}
    (a36 : PySem.W.nsIn K mainGlobals "_law_some" = some (some (.ref f36))) (l36 : K.lookup f36 = some ⟨oc36, od36, .func (PySem.W.fnOf "_law_some" "_law_some" (defArgs s__law_some) (defBody s__law_some) (defScope s__law_some) .none kV36 dc36 pm36 an36 cd36 ct36), sl36⟩) (c36 : PySem.W.codeIn K cd36 "_law_some" = true) (k36 : PySem.W.keepIn K (.ref f36) = true)
    {f37 : Addr} {od37 an37 : Option Addr} {sl37 : Array (Option Value)} {oc37 kV37 dc37 pm37 cd37 ct37 : Value}
    (a37 : PySem.W.nsIn K mainGlobals "_law_leaf" = some (some (.ref f37))) (l37 : K.lookup f37 = some ⟨oc37, od37, .func (PySem.W.fnOf "_law_leaf" "_law_leaf" (defArgs s__law_leaf) (defBody s__law_leaf) (defScope s__law_leaf) .none kV37 dc37 pm37 an37 cd37 ct37), sl37⟩) (c37 : PySem.W.codeIn K cd37 "_law_leaf" = true) (k37 : PySem.W.keepIn K (.ref f37) = true)
    {f38 : Addr} {od38 an38 : Option Addr} {sl38 : Array (Option Value)} {oc38 kV38 dc38 pm38 cd38 ct38 : Value}
    (a38 : PySem.W.nsIn K mainGlobals "_law_sieve" = some (some (.ref f38))) (l38 : K.lookup f38 = some ⟨oc38, od38, .func (PySem.W.fnOf "_law_sieve" "_law_sieve" (defArgs s__law_sieve) (defBody s__law_sieve) (defScope s__law_sieve) .none kV38 dc38 pm38 an38 cd38 ct38), sl38⟩) (c38 : PySem.W.codeIn K cd38 "_law_sieve" = true) (k38 : PySem.W.keepIn K (.ref f38) = true)
    {f39 : Addr} {od39 an39 : Option Addr} {sl39 : Array (Option Value)} {oc39 kV39 dc39 pm39 cd39 ct39 : Value}
    (a39 : PySem.W.nsIn K mainGlobals "_law_level" = some (some (.ref f39))) (l39 : K.lookup f39 = some ⟨oc39, od39, .func (PySem.W.fnOf "_law_level" "_law_level" (defArgs s__law_level) (defBody s__law_level) (defScope s__law_level) .none kV39 dc39 pm39 an39 cd39 ct39), sl39⟩) (c39 : PySem.W.codeIn K cd39 "_law_level" = true) (k39 : PySem.W.keepIn K (.ref f39) = true)
    {f40 : Addr} {od40 an40 : Option Addr} {sl40 : Array (Option Value)} {oc40 kV40 dc40 pm40 cd40 ct40 : Value}
    (a40 : PySem.W.nsIn K mainGlobals "_law_words" = some (some (.ref f40))) (l40 : K.lookup f40 = some ⟨oc40, od40, .func (PySem.W.fnOf "_law_words" "_law_words" (defArgs s__law_words) (defBody s__law_words) (defScope s__law_words) .none kV40 dc40 pm40 an40 cd40 ct40), sl40⟩) (c40 : PySem.W.codeIn K cd40 "_law_words" = true) (k40 : PySem.W.keepIn K (.ref f40) = true)
    {f41 : Addr} {od41 an41 : Option Addr} {sl41 : Array (Option Value)} {oc41 kV41 dc41 pm41 cd41 ct41 : Value}
    (a41 : PySem.W.nsIn K mainGlobals "_law_corners" = some (some (.ref f41))) (l41 : K.lookup f41 = some ⟨oc41, od41, .func (PySem.W.fnOf "_law_corners" "_law_corners" (defArgs s__law_corners) (defBody s__law_corners) (defScope s__law_corners) .none kV41 dc41 pm41 an41 cd41 ct41), sl41⟩) (c41 : PySem.W.codeIn K cd41 "_law_corners" = true) (k41 : PySem.W.keepIn K (.ref f41) = true)
    {f42 : Addr} {od42 an42 : Option Addr} {sl42 : Array (Option Value)} {oc42 kV42 dc42 pm42 cd42 ct42 : Value}
    (a42 : PySem.W.nsIn K mainGlobals "_law_pieces" = some (some (.ref f42))) (l42 : K.lookup f42 = some ⟨oc42, od42, .func (PySem.W.fnOf "_law_pieces" "_law_pieces" (defArgs s__law_pieces) (defBody s__law_pieces) (defScope s__law_pieces) .none kV42 dc42 pm42 an42 cd42 ct42), sl42⟩) (c42 : PySem.W.codeIn K cd42 "_law_pieces" = true) (k42 : PySem.W.keepIn K (.ref f42) = true)
    {f43 : Addr} {od43 an43 : Option Addr} {sl43 : Array (Option Value)} {oc43 kV43 dc43 pm43 cd43 ct43 : Value}
    (a43 : PySem.W.nsIn K mainGlobals "_law_chosen" = some (some (.ref f43))) (l43 : K.lookup f43 = some ⟨oc43, od43, .func (PySem.W.fnOf "_law_chosen" "_law_chosen" (defArgs s__law_chosen) (defBody s__law_chosen) (defScope s__law_chosen) .none kV43 dc43 pm43 an43 cd43 ct43), sl43⟩) (c43 : PySem.W.codeIn K cd43 "_law_chosen" = true) (k43 : PySem.W.keepIn K (.ref f43) = true)
    {f44 : Addr} {od44 an44 : Option Addr} {sl44 : Array (Option Value)} {oc44 kV44 dc44 pm44 cd44 ct44 : Value}
    (a44 : PySem.W.nsIn K mainGlobals "_law_said" = some (some (.ref f44))) (l44 : K.lookup f44 = some ⟨oc44, od44, .func (PySem.W.fnOf "_law_said" "_law_said" (defArgs s__law_said) (defBody s__law_said) (defScope s__law_said) .none kV44 dc44 pm44 an44 cd44 ct44), sl44⟩) (c44 : PySem.W.codeIn K cd44 "_law_said" = true) (k44 : PySem.W.keepIn K (.ref f44) = true)
    {f45 : Addr} {od45 an45 : Option Addr} {sl45 : Array (Option Value)} {oc45 kV45 dc45 pm45 cd45 ct45 : Value}
    (a45 : PySem.W.nsIn K mainGlobals "_law_parts_same" = some (some (.ref f45))) (l45 : K.lookup f45 = some ⟨oc45, od45, .func (PySem.W.fnOf "_law_parts_same" "_law_parts_same" (defArgs s__law_parts_same) (defBody s__law_parts_same) (defScope s__law_parts_same) .none kV45 dc45 pm45 an45 cd45 ct45), sl45⟩) (c45 : PySem.W.codeIn K cd45 "_law_parts_same" = true) (k45 : PySem.W.keepIn K (.ref f45) = true)
    {f46 : Addr} {od46 an46 : Option Addr} {sl46 : Array (Option Value)} {oc46 kV46 dc46 pm46 cd46 ct46 : Value}
    (a46 : PySem.W.nsIn K mainGlobals "_law_not_same" = some (some (.ref f46))) (l46 : K.lookup f46 = some ⟨oc46, od46, .func (PySem.W.fnOf "_law_not_same" "_law_not_same" (defArgs s__law_not_same) (defBody s__law_not_same) (defScope s__law_not_same) .none kV46 dc46 pm46 an46 cd46 ct46), sl46⟩) (c46 : PySem.W.codeIn K cd46 "_law_not_same" = true) (k46 : PySem.W.keepIn K (.ref f46) = true)
    {f47 : Addr} {od47 an47 : Option Addr} {sl47 : Array (Option Value)} {oc47 kV47 dc47 pm47 cd47 ct47 : Value}
    (a47 : PySem.W.nsIn K mainGlobals "_law_same" = some (some (.ref f47))) (l47 : K.lookup f47 = some ⟨oc47, od47, .func (PySem.W.fnOf "_law_same" "_law_same" (defArgs s__law_same) (defBody s__law_same) (defScope s__law_same) .none kV47 dc47 pm47 an47 cd47 ct47), sl47⟩) (c47 : PySem.W.codeIn K cd47 "_law_same" = true) (k47 : PySem.W.keepIn K (.ref f47) = true)
    {f48 : Addr} {od48 an48 : Option Addr} {sl48 : Array (Option Value)} {oc48 kV48 dc48 pm48 cd48 ct48 : Value}
    (a48 : PySem.W.nsIn K mainGlobals "_law_rewritten" = some (some (.ref f48))) (l48 : K.lookup f48 = some ⟨oc48, od48, .func (PySem.W.fnOf "_law_rewritten" "_law_rewritten" (defArgs s__law_rewritten) (defBody s__law_rewritten) (defScope s__law_rewritten) .none kV48 dc48 pm48 an48 cd48 ct48), sl48⟩) (c48 : PySem.W.codeIn K cd48 "_law_rewritten" = true) (k48 : PySem.W.keepIn K (.ref f48) = true)
    {f49 : Addr} {od49 an49 : Option Addr} {sl49 : Array (Option Value)} {oc49 kV49 dc49 pm49 cd49 ct49 : Value}
    (a49 : PySem.W.nsIn K mainGlobals "_law_weight" = some (some (.ref f49))) (l49 : K.lookup f49 = some ⟨oc49, od49, .func (PySem.W.fnOf "_law_weight" "_law_weight" (defArgs s__law_weight) (defBody s__law_weight) (defScope s__law_weight) .none kV49 dc49 pm49 an49 cd49 ct49), sl49⟩) (c49 : PySem.W.codeIn K cd49 "_law_weight" = true) (k49 : PySem.W.keepIn K (.ref f49) = true)
    {f50 : Addr} {od50 an50 : Option Addr} {sl50 : Array (Option Value)} {oc50 kV50 dc50 pm50 cd50 ct50 : Value}
    (a50 : PySem.W.nsIn K mainGlobals "_law_fits" = some (some (.ref f50))) (l50 : K.lookup f50 = some ⟨oc50, od50, .func (PySem.W.fnOf "_law_fits" "_law_fits" (defArgs s__law_fits) (defBody s__law_fits) (defScope s__law_fits) .none kV50 dc50 pm50 an50 cd50 ct50), sl50⟩) (c50 : PySem.W.codeIn K cd50 "_law_fits" = true) (k50 : PySem.W.keepIn K (.ref f50) = true)
    {f51 : Addr} {od51 an51 : Option Addr} {sl51 : Array (Option Value)} {oc51 kV51 dc51 pm51 cd51 ct51 : Value}
    (a51 : PySem.W.nsIn K mainGlobals "_law_changed" = some (some (.ref f51))) (l51 : K.lookup f51 = some ⟨oc51, od51, .func (PySem.W.fnOf "_law_changed" "_law_changed" (defArgs s__law_changed) (defBody s__law_changed) (defScope s__law_changed) .none kV51 dc51 pm51 an51 cd51 ct51), sl51⟩) (c51 : PySem.W.codeIn K cd51 "_law_changed" = true) (k51 : PySem.W.keepIn K (.ref f51) = true)
    {f52 : Addr} {od52 an52 : Option Addr} {sl52 : Array (Option Value)} {oc52 kV52 dc52 pm52 cd52 ct52 : Value}
    (a52 : PySem.W.nsIn K mainGlobals "_law_apart" = some (some (.ref f52))) (l52 : K.lookup f52 = some ⟨oc52, od52, .func (PySem.W.fnOf "_law_apart" "_law_apart" (defArgs s__law_apart) (defBody s__law_apart) (defScope s__law_apart) .none kV52 dc52 pm52 an52 cd52 ct52), sl52⟩) (c52 : PySem.W.codeIn K cd52 "_law_apart" = true) (k52 : PySem.W.keepIn K (.ref f52) = true)
    {f53 : Addr} {od53 an53 : Option Addr} {sl53 : Array (Option Value)} {oc53 kV53 dc53 pm53 cd53 ct53 : Value}
    (a53 : PySem.W.nsIn K mainGlobals "law" = some (some (.ref f53))) (l53 : K.lookup f53 = some ⟨oc53, od53, .func (PySem.W.fnOf "law" "law" (defArgs s_law) (defBody s_law) (defScope s_law) .none kV53 dc53 pm53 an53 cd53 ct53), sl53⟩) (c53 : PySem.W.codeIn K cd53 "law" = true) (k53 : PySem.W.keepIn K (.ref f53) = true)
    {dN0 : Addr} {esN0 : Array DictEntry} {nN0 : Nat} (aN0 : PySem.W.nsIn K mainGlobals "TURNED" = some (some (.ref dN0))) (lN0 : K.lookup dN0 = some ⟨.type "dict", none, .dict esN0 nN0, #[]⟩) (kN0 : PySem.W.KeysLit w.params esN0.toList)
    {tN0_0 : Tok} (vN0_0 : PySem.W.nsIn K dN0 "yes" = some (some (.str "no" tN0_0)))
    {tN0_1 : Tok} (vN0_1 : PySem.W.nsIn K dN0 "no" = some (some (.str "yes" tN0_1)))
    {tN0_2 : Tok} (vN0_2 : PySem.W.nsIn K dN0 "open" = some (some (.str "open" tN0_2)))
    {dN1 : Addr} {esN1 : Array DictEntry} {nN1 : Nat} (aN1 : PySem.W.nsIn K mainGlobals "NEXT_LETTERS" = some (some (.ref dN1))) (lN1 : K.lookup dN1 = some ⟨.type "dict", none, .dict esN1 nN1, #[]⟩) (kN1 : PySem.W.KeysLit w.params esN1.toList)
    {tN1_0 : Tok} (vN1_0 : PySem.W.nsIn K dN1 "a" = some (some (.str "b" tN1_0)))
    {tN1_1 : Tok} (vN1_1 : PySem.W.nsIn K dN1 "b" = some (some (.str "c" tN1_1)))
    (lw0 : (dN0 == sysModules) = false)
    (lw1 : (dN1 == sysModules) = false)
    {eA eB : Addr} {odA odB : Option Addr} {nA nB : Nat} {slA slB : Array (Option Value)} {tE : Tok} (aE : PySem.W.nsIn K mainGlobals "EVERY_TEXT" = some (some (.ref eA))) (lEA : K.lookup eA = some ⟨.type "tuple", odA, .seq #[.ref eB] nA, slA⟩) (lEB : K.lookup eB = some ⟨.type "tuple", odB, .seq #[.str "" tE, .none] nB, slB⟩)
    (z0 : PySem.W.nsIn K mainGlobals "int" = some none)
    (z1 : PySem.W.nsIn K mainGlobals "len" = some none)
    (z2 : PySem.W.nsIn K mainGlobals "max" = some none)
    (z3 : PySem.W.nsIn K mainGlobals "range" = some none)
    (z4 : PySem.W.nsIn K mainGlobals "type" = some none)
    (z5 : PySem.W.nsIn K mainGlobals "tuple" = some none)
    (z6 : PySem.W.nsIn K mainGlobals "list" = some none)
    (z7 : PySem.W.nsIn K mainGlobals "str" = some none)
    (z8 : PySem.W.nsIn K mainGlobals "bool" = some none)
    (z9 : PySem.W.nsIn K mainGlobals "min" = some none)
    (z10 : PySem.W.nsIn K mainGlobals "any" = some none)
    (z11 : PySem.W.nsIn K mainGlobals "enumerate" = some none)
    (z12 : PySem.W.nsIn K mainGlobals "all" = some none)
    (z13 : PySem.W.nsIn K mainGlobals "zip" = some none)
    (z14 : PySem.W.nsIn K mainGlobals "sorted" = some none)
    (z15 : PySem.W.nsIn K mainGlobals "set" = some none)
    (z16 : PySem.W.nsIn K mainGlobals "repr" = some none)
    : ∃ fd : FuncData, (∀ (s : Shared) (v : Value), BindsTo s fd ⟨[v], []⟩ [("script", v)]) ∧ ∀ base : Heap, K.In base → base.Ns mainGlobals mg → FnG l.prog w K mg base 207 fa fd ["script"] (spLaw K) := by
  have e := hfa.symm.trans (PySem.W.mg_of X G a53)
  cases e
  have F_is_text := fun_mk (st := s_is_text) l0 c0 k0
  have D_is_text : Df K mg "is_text" s_is_text ["value"] f0 _ := ⟨F_is_text, PySem.W.mg_of X G a0, F_is_text.binds (ps := ["value"]) fun _ _ _ _ _ _ us hl => match us, hl with | [_], _ => rfl⟩
  have F_is_range := fun_mk (st := s_is_range) l1 c1 k1
  have D_is_range : Df K mg "is_range" s_is_range ["value"] f1 _ := ⟨F_is_range, PySem.W.mg_of X G a1, F_is_range.binds (ps := ["value"]) fun _ _ _ _ _ _ us hl => match us, hl with | [_], _ => rfl⟩
  have F_is_span := fun_mk (st := s_is_span) l2 c2 k2
  have D_is_span : Df K mg "is_span" s_is_span ["value"] f2 _ := ⟨F_is_span, PySem.W.mg_of X G a2, F_is_span.binds (ps := ["value"]) fun _ _ _ _ _ _ us hl => match us, hl with | [_], _ => rfl⟩
  have F_reaches := fun_mk (st := s_reaches) l3 c3 k3
  have D_reaches : Df K mg "reaches" s_reaches ["end", "first"] f3 _ := ⟨F_reaches, PySem.W.mg_of X G a3, F_reaches.binds (ps := ["end", "first"]) fun _ _ _ _ _ _ us hl => match us, hl with | [_, _], _ => rfl⟩
  have F_check_text := fun_mk (st := s_check_text) l4 c4 k4
  have D_check_text : Df K mg "check_text" s_check_text ["text"] f4 _ := ⟨F_check_text, PySem.W.mg_of X G a4, F_check_text.binds (ps := ["text"]) fun _ _ _ _ _ _ us hl => match us, hl with | [_], _ => rfl⟩
  have F_check_span := fun_mk (st := s_check_span) l5 c5 k5
  have D_check_span : Df K mg "check_span" s_check_span ["span"] f5 _ := ⟨F_check_span, PySem.W.mg_of X G a5, F_check_span.binds (ps := ["span"]) fun _ _ _ _ _ _ us hl => match us, hl with | [_], _ => rfl⟩
  have F_check_ranges := fun_mk (st := s_check_ranges) l6 c6 k6
  have D_check_ranges : Df K mg "check_ranges" s_check_ranges ["ranges"] f6 _ := ⟨F_check_ranges, PySem.W.mg_of X G a6, F_check_ranges.binds (ps := ["ranges"]) fun _ _ _ _ _ _ us hl => match us, hl with | [_], _ => rfl⟩
  have F_behind := fun_mk (st := s_behind) l7 c7 k7
  have D_behind : Df K mg "behind" s_behind ["text"] f7 _ := ⟨F_behind, PySem.W.mg_of X G a7, F_behind.binds (ps := ["text"]) fun _ _ _ _ _ _ us hl => match us, hl with | [_], _ => rfl⟩
  have F_beyond := fun_mk (st := s_beyond) l8 c8 k8
  have D_beyond : Df K mg "beyond" s_beyond ["text"] f8 _ := ⟨F_beyond, PySem.W.mg_of X G a8, F_beyond.binds (ps := ["text"]) fun _ _ _ _ _ _ us hl => match us, hl with | [_], _ => rfl⟩
  have F_later_end := fun_mk (st := s_later_end) l9 c9 k9
  have D_later_end : Df K mg "later_end" s_later_end ["end", "other_end"] f9 _ := ⟨F_later_end, PySem.W.mg_of X G a9, F_later_end.binds (ps := ["end", "other_end"]) fun _ _ _ _ _ _ us hl => match us, hl with | [_, _], _ => rfl⟩
  have F_ascending := fun_mk (st := s_ascending) l10 c10 k10
  have D_ascending : Df K mg "ascending" s_ascending ["texts"] f10 _ := ⟨F_ascending, PySem.W.mg_of X G a10, F_ascending.binds (ps := ["texts"]) fun _ _ _ _ _ _ us hl => match us, hl with | [_], _ => rfl⟩
  have F_span_of := fun_mk (st := s_span_of) l11 c11 k11
  have D_span_of : Df K mg "span_of" s_span_of ["ranges"] f11 _ := ⟨F_span_of, PySem.W.mg_of X G a11, F_span_of.binds (ps := ["ranges"]) fun _ _ _ _ _ _ us hl => match us, hl with | [_], _ => rfl⟩
  have F_opposite := fun_mk (st := s_opposite) l12 c12 k12
  have D_opposite : Df K mg "opposite" s_opposite ["span"] f12 _ := ⟨F_opposite, PySem.W.mg_of X G a12, F_opposite.binds (ps := ["span"]) fun _ _ _ _ _ _ us hl => match us, hl with | [_], _ => rfl⟩
  have F_joined := fun_mk (st := s_joined) l13 c13 k13
  have D_joined : Df K mg "joined" s_joined ["span", "other_span"] f13 _ := ⟨F_joined, PySem.W.mg_of X G a13, F_joined.binds (ps := ["span", "other_span"]) fun _ _ _ _ _ _ us hl => match us, hl with | [_, _], _ => rfl⟩
  have F_shared := fun_mk (st := s_shared) l14 c14 k14
  have D_shared : Df K mg "shared" s_shared ["span", "other_span"] f14 _ := ⟨F_shared, PySem.W.mg_of X G a14, F_shared.binds (ps := ["span", "other_span"]) fun _ _ _ _ _ _ us hl => match us, hl with | [_, _], _ => rfl⟩
  have F_least_text := fun_mk (st := s_least_text) l15 c15 k15
  have D_least_text : Df K mg "least_text" s_least_text ["span"] f15 _ := ⟨F_least_text, PySem.W.mg_of X G a15, F_least_text.binds (ps := ["span"]) fun _ _ _ _ _ _ us hl => match us, hl with | [_], _ => rfl⟩
  have F_is_filter := fun_mk (st := s_is_filter) l16 c16 k16
  have D_is_filter : Df K mg "is_filter" s_is_filter ["value"] f16 _ := ⟨F_is_filter, PySem.W.mg_of X G a16, F_is_filter.binds (ps := ["value"]) fun _ _ _ _ _ _ us hl => match us, hl with | [_], _ => rfl⟩
  have F_can_follow := fun_mk (st := s_can_follow) l17 c17 k17
  have D_can_follow : Df K mg "can_follow" s_can_follow ["word", "part"] f17 _ := ⟨F_can_follow, PySem.W.mg_of X G a17, F_can_follow.binds (ps := ["word", "part"]) fun _ _ _ _ _ _ us hl => match us, hl with | [_, _], _ => rfl⟩
  have F_check_filter := fun_mk (st := s_check_filter) l18 c18 k18
  have D_check_filter : Df K mg "check_filter" s_check_filter ["query"] f18 _ := ⟨F_check_filter, PySem.W.mg_of X G a18, F_check_filter.binds (ps := ["query"]) fun _ _ _ _ _ _ us hl => match us, hl with | [_], _ => rfl⟩
  have F_answer_to := fun_mk (st := s_answer_to) l19 c19 k19
  have D_answer_to : Df K mg "answer_to" s_answer_to ["query", "value"] f19 _ := ⟨F_answer_to, PySem.W.mg_of X G a19, F_answer_to.binds (ps := ["query", "value"]) fun _ _ _ _ _ _ us hl => match us, hl with | [_, _], _ => rfl⟩
  have F_yes_or_no := fun_mk (st := s_yes_or_no) l20 c20 k20
  have D_yes_or_no : Df K mg "yes_or_no" s_yes_or_no ["holds"] f20 _ := ⟨F_yes_or_no, PySem.W.mg_of X G a20, F_yes_or_no.binds (ps := ["holds"]) fun _ _ _ _ _ _ us hl => match us, hl with | [_], _ => rfl⟩
  have F_settled := fun_mk (st := s_settled) l21 c21 k21
  have D_settled : Df K mg "settled" s_settled ["answers", "deciding", "otherwise"] f21 _ := ⟨F_settled, PySem.W.mg_of X G a21, F_settled.binds (ps := ["answers", "deciding", "otherwise"]) fun _ _ _ _ _ _ us hl => match us, hl with | [_, _, _], _ => rfl⟩
  have F_matches := fun_mk (st := s_matches) l22 c22 k22
  have D_matches : Df K mg "matches" s_matches ["word", "wanted", "text"] f22 _ := ⟨F_matches, PySem.W.mg_of X G a22, F_matches.binds (ps := ["word", "wanted", "text"]) fun _ _ _ _ _ _ us hl => match us, hl with | [_, _, _], _ => rfl⟩
  have F_selection := fun_mk (st := s_selection) l23 c23 k23
  have D_selection : Df K mg "selection" s_selection ["query"] f23 _ := ⟨F_selection, PySem.W.mg_of X G a23, F_selection.binds (ps := ["query"]) fun _ _ _ _ _ _ us hl => match us, hl with | [_], _ => rfl⟩
  have F_passing_texts := fun_mk (st := s_passing_texts) l24 c24 k24
  have D_passing_texts : Df K mg "passing_texts" s_passing_texts ["query"] f24 _ := ⟨F_passing_texts, PySem.W.mg_of X G a24, F_passing_texts.binds (ps := ["query"]) fun _ _ _ _ _ _ us hl => match us, hl with | [_], _ => rfl⟩
  have F_joined_all := fun_mk (st := s_joined_all) l25 c25 k25
  have D_joined_all : Df K mg "joined_all" s_joined_all ["spans"] f25 _ := ⟨F_joined_all, PySem.W.mg_of X G a25, F_joined_all.binds (ps := ["spans"]) fun _ _ _ _ _ _ us hl => match us, hl with | [_], _ => rfl⟩
  have F_matching_texts := fun_mk (st := s_matching_texts) l26 c26 k26
  have D_matching_texts : Df K mg "matching_texts" s_matching_texts ["word", "wanted"] f26 _ := ⟨F_matching_texts, PySem.W.mg_of X G a26, F_matching_texts.binds (ps := ["word", "wanted"]) fun _ _ _ _ _ _ us hl => match us, hl with | [_, _], _ => rfl⟩
  have F_alike := fun_mk (st := s_alike) l27 c27 k27
  have D_alike : Df K mg "alike" s_alike ["one", "other"] f27 _ := ⟨F_alike, PySem.W.mg_of X G a27, F_alike.binds (ps := ["one", "other"]) fun _ _ _ _ _ _ us hl => match us, hl with | [_, _], _ => rfl⟩
  have F_parting := fun_mk (st := s_parting) l28 c28 k28
  have D_parting : Df K mg "parting" s_parting ["one", "other"] f28 _ := ⟨F_parting, PySem.W.mg_of X G a28, F_parting.binds (ps := ["one", "other"]) fun _ _ _ _ _ _ us hl => match us, hl with | [_, _], _ => rfl⟩
  have F_within := fun_mk (st := s_within) l29 c29 k29
  have D_within : Df K mg "within" s_within ["one", "other"] f29 _ := ⟨F_within, PySem.W.mg_of X G a29, F_within.binds (ps := ["one", "other"]) fun _ _ _ _ _ _ us hl => match us, hl with | [_, _], _ => rfl⟩
  have F_passes := fun_mk (st := s_passes) l30 c30 k30
  have D_passes : Df K mg "passes" s_passes ["query", "value"] f30 _ := ⟨F_passes, PySem.W.mg_of X G a30, F_passes.binds (ps := ["query", "value"]) fun _ _ _ _ _ _ us hl => match us, hl with | [_, _], _ => rfl⟩
  have F__law_bag := fun_mk (st := s__law_bag) l31 c31 k31
  have D__law_bag : Df K mg "_law_bag" s__law_bag ["cell"] f31 _ := ⟨F__law_bag, PySem.W.mg_of X G a31, F__law_bag.binds (ps := ["cell"]) fun _ _ _ _ _ _ us hl => match us, hl with | [_], _ => rfl⟩
  have F__law_draw := fun_mk (st := s__law_draw) l32 c32 k32
  have D__law_draw : Df K mg "_law_draw" s__law_draw ["bag", "upto"] f32 _ := ⟨F__law_draw, PySem.W.mg_of X G a32, F__law_draw.binds (ps := ["bag", "upto"]) fun _ _ _ _ _ _ us hl => match us, hl with | [_, _], _ => rfl⟩
  have F__law_text := fun_mk (st := s__law_text) l33 c33 k33
  have D__law_text : Df K mg "_law_text" s__law_text ["bag"] f33 _ := ⟨F__law_text, PySem.W.mg_of X G a33, F__law_text.binds (ps := ["bag"]) fun _ _ _ _ _ _ us hl => match us, hl with | [_], _ => rfl⟩
  have F__law_near := fun_mk (st := s__law_near) l34 c34 k34
  have D__law_near : Df K mg "_law_near" s__law_near ["bag", "word"] f34 _ := ⟨F__law_near, PySem.W.mg_of X G a34, F__law_near.binds (ps := ["bag", "word"]) fun _ _ _ _ _ _ us hl => match us, hl with | [_, _], _ => rfl⟩
  have F__law_past := fun_mk (st := s__law_past) l35 c35 k35
  have D__law_past : Df K mg "_law_past" s__law_past ["word"] f35 _ := ⟨F__law_past, PySem.W.mg_of X G a35, F__law_past.binds (ps := ["word"]) fun _ _ _ _ _ _ us hl => match us, hl with | [_], _ => rfl⟩
  have F__law_some := fun_mk (st := s__law_some) l36 c36 k36
  have D__law_some : Df K mg "_law_some" s__law_some ["bag", "pool"] f36 _ := ⟨F__law_some, PySem.W.mg_of X G a36, F__law_some.binds (ps := ["bag", "pool"]) fun _ _ _ _ _ _ us hl => match us, hl with | [_, _], _ => rfl⟩
  have F__law_leaf := fun_mk (st := s__law_leaf) l37 c37 k37
  have D__law_leaf : Df K mg "_law_leaf" s__law_leaf ["bag", "room", "pool"] f37 _ := ⟨F__law_leaf, PySem.W.mg_of X G a37, F__law_leaf.binds (ps := ["bag", "room", "pool"]) fun _ _ _ _ _ _ us hl => match us, hl with | [_, _, _], _ => rfl⟩
  have F__law_sieve := fun_mk (st := s__law_sieve) l38 c38 k38
  have D__law_sieve : Df K mg "_law_sieve" s__law_sieve ["bag", "room", "pool", "levels"] f38 _ := ⟨F__law_sieve, PySem.W.mg_of X G a38, F__law_sieve.binds (ps := ["bag", "room", "pool", "levels"]) fun _ _ _ _ _ _ us hl => match us, hl with | [_, _, _, _], _ => rfl⟩
  have F__law_level := fun_mk (st := s__law_level) l39 c39 k39
  have D__law_level : Df K mg "_law_level" s__law_level ["sieve", "thing"] f39 _ := ⟨F__law_level, PySem.W.mg_of X G a39, F__law_level.binds (ps := ["sieve", "thing"]) fun _ _ _ _ _ _ us hl => match us, hl with | [_, _], _ => rfl⟩
  have F__law_words := fun_mk (st := s__law_words) l40 c40 k40
  have D__law_words : Df K mg "_law_words" s__law_words ["sieve"] f40 _ := ⟨F__law_words, PySem.W.mg_of X G a40, F__law_words.binds (ps := ["sieve"]) fun _ _ _ _ _ _ us hl => match us, hl with | [_], _ => rfl⟩
  have F__law_corners := fun_mk (st := s__law_corners) l41 c41 k41
  have D__law_corners : Df K mg "_law_corners" s__law_corners ["words"] f41 _ := ⟨F__law_corners, PySem.W.mg_of X G a41, F__law_corners.binds (ps := ["words"]) fun _ _ _ _ _ _ us hl => match us, hl with | [_], _ => rfl⟩
  have F__law_pieces := fun_mk (st := s__law_pieces) l42 c42 k42
  have D__law_pieces : Df K mg "_law_pieces" s__law_pieces ["points", "marks"] f42 _ := ⟨F__law_pieces, PySem.W.mg_of X G a42, F__law_pieces.binds (ps := ["points", "marks"]) fun _ _ _ _ _ _ us hl => match us, hl with | [_, _], _ => rfl⟩
  have F__law_chosen := fun_mk (st := s__law_chosen) l43 c43 k43
  have D__law_chosen : Df K mg "_law_chosen" s__law_chosen ["sieve"] f43 _ := ⟨F__law_chosen, PySem.W.mg_of X G a43, F__law_chosen.binds (ps := ["sieve"]) fun _ _ _ _ _ _ us hl => match us, hl with | [_], _ => rfl⟩
  have F__law_said := fun_mk (st := s__law_said) l44 c44 k44
  have D__law_said : Df K mg "_law_said" s__law_said ["word", "text", "way"] f44 _ := ⟨F__law_said, PySem.W.mg_of X G a44, F__law_said.binds (ps := ["word", "text", "way"]) fun _ _ _ _ _ _ us hl => match us, hl with | [_, _, _], _ => rfl⟩
  have F__law_parts_same := fun_mk (st := s__law_parts_same) l45 c45 k45
  have D__law_parts_same : Df K mg "_law_parts_same" s__law_parts_same ["word", "parts", "way"] f45 _ := ⟨F__law_parts_same, PySem.W.mg_of X G a45, F__law_parts_same.binds (ps := ["word", "parts", "way"]) fun _ _ _ _ _ _ us hl => match us, hl with | [_, _, _], _ => rfl⟩
  have F__law_not_same := fun_mk (st := s__law_not_same) l46 c46 k46
  have D__law_not_same : Df K mg "_law_not_same" s__law_not_same ["part", "way"] f46 _ := ⟨F__law_not_same, PySem.W.mg_of X G a46, F__law_not_same.binds (ps := ["part", "way"]) fun _ _ _ _ _ _ us hl => match us, hl with | [_, _], _ => rfl⟩
  have F__law_same := fun_mk (st := s__law_same) l47 c47 k47
  have D__law_same : Df K mg "_law_same" s__law_same ["bag", "sieve"] f47 _ := ⟨F__law_same, PySem.W.mg_of X G a47, F__law_same.binds (ps := ["bag", "sieve"]) fun _ _ _ _ _ _ us hl => match us, hl with | [_, _], _ => rfl⟩
  have F__law_rewritten := fun_mk (st := s__law_rewritten) l48 c48 k48
  have D__law_rewritten : Df K mg "_law_rewritten" s__law_rewritten ["bag", "sieve"] f48 _ := ⟨F__law_rewritten, PySem.W.mg_of X G a48, F__law_rewritten.binds (ps := ["bag", "sieve"]) fun _ _ _ _ _ _ us hl => match us, hl with | [_, _], _ => rfl⟩
  have F__law_weight := fun_mk (st := s__law_weight) l49 c49 k49
  have D__law_weight : Df K mg "_law_weight" s__law_weight ["sieve"] f49 _ := ⟨F__law_weight, PySem.W.mg_of X G a49, F__law_weight.binds (ps := ["sieve"]) fun _ _ _ _ _ _ us hl => match us, hl with | [_], _ => rfl⟩
  have F__law_fits := fun_mk (st := s__law_fits) l50 c50 k50
  have D__law_fits : Df K mg "_law_fits" s__law_fits ["sieve"] f50 _ := ⟨F__law_fits, PySem.W.mg_of X G a50, F__law_fits.binds (ps := ["sieve"]) fun _ _ _ _ _ _ us hl => match us, hl with | [_], _ => rfl⟩
  have F__law_changed := fun_mk (st := s__law_changed) l51 c51 k51
  have D__law_changed : Df K mg "_law_changed" s__law_changed ["bag", "sieve", "pool"] f51 _ := ⟨F__law_changed, PySem.W.mg_of X G a51, F__law_changed.binds (ps := ["bag", "sieve", "pool"]) fun _ _ _ _ _ _ us hl => match us, hl with | [_, _, _], _ => rfl⟩
  have F__law_apart := fun_mk (st := s__law_apart) l52 c52 k52
  have D__law_apart : Df K mg "_law_apart" s__law_apart ["start", "odd"] f52 _ := ⟨F__law_apart, PySem.W.mg_of X G a52, F__law_apart.binds (ps := ["start", "odd"]) fun _ _ _ _ _ _ us hl => match us, hl with | [_, _], _ => rfl⟩
  have F_law := fun_mk (st := s_law) l53 c53 k53
  have D_law : Df K mg "law" s_law ["script"] fa _ := ⟨F_law, PySem.W.mg_of X G a53, F_law.binds (ps := ["script"]) fun _ _ _ _ _ _ us hl => match us, hl with | [_], _ => rfl⟩
  have T : Nm mg := ⟨PySem.W.mg_none_of X G z0, PySem.W.mg_none_of X G z1, PySem.W.mg_none_of X G z2, PySem.W.mg_none_of X G z3, PySem.W.mg_none_of X G z4, PySem.W.mg_none_of X G z5, PySem.W.mg_none_of X G z6, PySem.W.mg_none_of X G z7, PySem.W.mg_none_of X G z8, PySem.W.mg_none_of X G z9, PySem.W.mg_none_of X G z10, PySem.W.mg_none_of X G z11, PySem.W.mg_none_of X G z12, PySem.W.mg_none_of X G z13, PySem.W.mg_none_of X G z14, PySem.W.mg_none_of X G z15, PySem.W.mg_none_of X G z16⟩
  have TG : Ng K w mg := ⟨dN0, PySem.W.mg_of X G aN0, (by exact ⟨esN0, nN0, _, lN0, kN0, vN0_0, ⟨_, rfl⟩⟩), (by exact ⟨esN0, nN0, _, lN0, kN0, vN0_1, ⟨_, rfl⟩⟩), (by exact ⟨esN0, nN0, _, lN0, kN0, vN0_2, ⟨_, rfl⟩⟩), ⟨esN0, nN0, _, ⟨lN0, kN0, lw0⟩, vN0_0, rfl⟩, ⟨esN0, nN0, _, ⟨lN0, kN0, lw0⟩, vN0_1, rfl⟩, ⟨esN0, nN0, _, ⟨lN0, kN0, lw0⟩, vN0_2, rfl⟩, dN1, PySem.W.mg_of X G aN1, (by rw [← a_lit]; exact ⟨esN1, nN1, _, lN1, kN1, vN1_0, ⟨_, rfl⟩⟩), (by rw [← b_lit]; exact ⟨esN1, nN1, _, lN1, kN1, vN1_1, ⟨_, rfl⟩⟩), eA, PySem.W.mg_of X G aE, eB, fun H => .inr ⟨_, _, _, lEA, rfl, rfl, (show (1 : Nat) ≤ sizeLine by decide), .cons rfl .nil⟩, fun H => .inr ⟨_, _, _, lEB, rfl, rfl, (show (2 : Nat) ≤ sizeLine by decide), .cons ⟨_, rfl⟩ (.cons rfl .nil)⟩⟩
  refine ⟨PySem.W.fnOf "law" "law" (defArgs s_law) (defBody s_law) (defScope s_law) .none kV53 dc53 pm53 an53 cd53 ct53, fun s v => .of_eq rfl, fun base _ _ => ?_⟩
  have c_bag := cl__law_bag (P := l.prog) (w := w) (base := base) D__law_bag T
  have c_draw := cl__law_draw (P := l.prog) (w := w) (base := base) D__law_draw T
  have c_text := cl__law_text D__law_text T c_draw
  have c_near := cl__law_near D__law_near T c_draw
  have c_some := cl__law_some D__law_some T c_draw c_near c_text
  have c_ist := cl_is_text (P := l.prog) (w := w) (base := base) D_is_text T
  have c_isr := cl_is_range D_is_range T c_ist
  have c_reach := cl_reaches (P := l.prog) (w := w) (base := base) D_reaches T
  have c_reachG := cl_reachesG (P := l.prog) (w := w) (base := base) D_reaches T
  have c_iss := cl_is_span D_is_span T c_isr c_reach
  have c_cks := cl_check_span D_check_span T c_iss
  have c_opp := cl_opposite D_opposite T c_cks
  have c_ckr := cl_check_ranges D_check_ranges T c_isr
  have c_later := cl_later_end (P := l.prog) (w := w) (base := base) D_later_end T
  have c_asc := cl_ascending (P := l.prog) (w := w) (base := base) D_ascending T
  have c_spanof := cl_span_of D_span_of T c_ckr c_later c_asc c_reachG
  have c_ckt := cl_check_text D_check_text T c_ist
  have c_beh := cl_behind D_behind T c_ckt
  have c_bey := cl_beyond D_beyond T TG c_ckt
  have c_mt := cl_matching_texts D_matching_texts T c_beh c_bey
  have c_ja := cl_joined_all D_joined_all T c_spanof
  have c_pass := pass_all D_passing_texts T TG c_opp c_ja c_spanof c_beh c_mt 100
  have c_isf := (both_filter (P := l.prog) (w := w) (base := base) D_is_text D_is_filter D_can_follow T 100).1
  have c_ckf := cl_check_filter D_check_filter T c_isf
  have c_yes := cl_yes_or_no (P := l.prog) (w := w) (base := base) D_yes_or_no T
  have c_set := cl_settled (P := l.prog) (w := w) (base := base) D_settled T
  have c_mat := cl_matches (P := l.prog) (w := w) (base := base) D_matches T
  have c_ans := ans_all D_answer_to T TG c_yes c_set c_mat 100
  have c_sel := cl_selection (m := 202) D_selection T c_ckf (c_ans.mono (by omega)) (c_pass.mono (by omega))
  have c_alike := cl_alike D_alike T c_sel
  have c_jn := cl_joined D_joined T c_cks c_spanof
  have c_sh := cl_shared D_shared T c_opp c_jn
  have c_least := cl_least_text D_least_text T c_cks
  have c_pas := cl_passes D_passes T c_ans
  have c_part := cl_parting (m := 202) (by decide) D_parting T c_ckf (c_pas.mono (by omega)) (c_pass.mono (by omega)) c_opp c_jn c_sh c_least
  have c_with := cl_within (m := 202) (by decide) D_within T c_ckf (c_pas.mono (by omega)) (c_pass.mono (by omega)) c_opp c_sh
  have c_leaf := cl__law_leaf D__law_leaf T c_draw c_some
  have c_sieve := cl__law_sieve D__law_sieve T c_draw c_leaf 5
  have c_past := cl__law_pastX (P := l.prog) (w := w) (base := base) D__law_past T
  have c_said := cl__law_said D__law_said T c_past
  have c_psame := cl__law_parts_same (P := l.prog) (w := w) (base := base) D__law_parts_same T
  have c_nsame := cl__law_not_same (P := l.prog) (w := w) (base := base) D__law_not_same T
  have c_same := cl__law_same D__law_same T c_draw c_said c_psame c_nsame
  have c_rewr := rewr_all D__law_rewritten T c_draw c_same 100
  have c_wgt := weight_all (P := l.prog) (w := w) (base := base) D__law_weight T 100
  have c_wrd := words_all (P := l.prog) (w := w) (base := base) D__law_words T 100
  have c_fits := cl__law_fits (m := 103) D__law_fits T (c_wgt.mono (by omega)) (c_wrd.mono (by omega))
  have c_chg := chg_all D__law_changed T c_draw c_near c_leaf 100
  have c_lev := level_all (P := l.prog) (w := w) (base := base) D__law_level T 100
  have c_cor := cl__law_corners D__law_corners T c_past
  have c_pieces := cl__law_pieces (P := l.prog) (w := w) (base := base) D__law_pieces T
  have c_cho := cl__law_chosen (m := 203) (by decide) D__law_chosen T c_cor (c_wrd.mono (by omega)) c_pieces (c_lev.mono (by omega))
  have c_apart := cl__law_apart D__law_apart T (c_wrd.mono (by omega)) (c_cor.mono (by omega)) (c_lev.mono (by omega)) (c_alike.mono (by omega)) (c_part.mono (by omega)) c_cho
  exact cl_law D_law T c_bag (c_sieve.mono (by omega)) c_cho (c_rewr.mono (by omega)) c_fits (c_sel.mono (by omega)) (c_alike.mono (by omega)) (c_part.mono (by omega)) (c_with.mono (by omega)) c_chg c_apart
end
end Kq
open PySem PySem.W PyProof.Rows in
set_option maxRecDepth 100000 in
set_option maxHeartbeats 0 in
theorem PySem.Challenge.cw_pageskips_k16_whole_filters_rewritten_holds : PySem.Challenge.rw_pageskips_k16_whole_filters_rewritten.Holds := by
  w_on; o_law; k_head; (case hw => w_witness2)
  k_fill
  refine Pg.walk_g (l := PySem.Challenge.rw_pageskips_k16_whole_filters_rewritten) (n := 63) (k := 207) (x := "script") (sp := fun w => Kq.spLaw _) rfl (by decide) rfl ⟨rfl, by decide, by decide⟩ (fun w h Y => PySem.W.kIn_of Y) ?F (fun _ _ a ns hl _ hS => ⟨a, ns, rfl, hS, hl, fun _ => rfl⟩)
  case F =>
    intro w mg fa h KX G hmg
    refine' Kq.all_mk KX G hmg ?a0 ?l0 ?c0 ?k0 ?a1 ?l1 ?c1 ?k1 ?a2 ?l2 ?c2 ?k2 ?a3 ?l3 ?c3 ?k3 ?a4 ?l4 ?c4 ?k4 ?a5 ?l5 ?c5 ?k5 ?a6 ?l6 ?c6 ?k6 ?a7 ?l7 ?c7 ?k7 ?a8 ?l8 ?c8 ?k8 ?a9 ?l9 ?c9 ?k9 ?a10 ?l10 ?c10 ?k10 ?a11 ?l11 ?c11 ?k11 ?a12 ?l12 ?c12 ?k12 ?a13 ?l13 ?c13 ?k13 ?a14 ?l14 ?c14 ?k14 ?a15 ?l15 ?c15 ?k15 ?a16 ?l16 ?c16 ?k16 ?a17 ?l17 ?c17 ?k17 ?a18 ?l18 ?c18 ?k18 ?a19 ?l19 ?c19 ?k19 ?a20 ?l20 ?c20 ?k20 ?a21 ?l21 ?c21 ?k21 ?a22 ?l22 ?c22 ?k22 ?a23 ?l23 ?c23 ?k23 ?a24 ?l24 ?c24 ?k24 ?a25 ?l25 ?c25 ?k25 ?a26 ?l26 ?c26 ?k26 ?a27 ?l27 ?c27 ?k27 ?a28 ?l28 ?c28 ?k28 ?a29 ?l29 ?c29 ?k29 ?a30 ?l30 ?c30 ?k30 ?a31 ?l31 ?c31 ?k31 ?a32 ?l32 ?c32 ?k32 ?a33 ?l33 ?c33 ?k33 ?a34 ?l34 ?c34 ?k34 ?a35 ?l35 ?c35 ?k35 ?a36 ?l36 ?c36 ?k36 ?a37 ?l37 ?c37 ?k37 ?a38 ?l38 ?c38 ?k38 ?a39 ?l39 ?c39 ?k39 ?a40 ?l40 ?c40 ?k40 ?a41 ?l41 ?c41 ?k41 ?a42 ?l42 ?c42 ?k42 ?a43 ?l43 ?c43 ?k43 ?a44 ?l44 ?c44 ?k44 ?a45 ?l45 ?c45 ?k45 ?a46 ?l46 ?c46 ?k46 ?a47 ?l47 ?c47 ?k47 ?a48 ?l48 ?c48 ?k48 ?a49 ?l49 ?c49 ?k49 ?a50 ?l50 ?c50 ?k50 ?a51 ?l51 ?c51 ?k51 ?a52 ?l52 ?c52 ?k52 ?a53 ?l53 ?c53 ?k53 ?aN0 ?lN0 ?kN0 ?vN0_0 ?vN0_1 ?vN0_2 ?aN1 ?lN1 ?kN1 ?vN1_0 ?vN1_1 ?lw0 ?lw1 ?aE ?lEA ?lEB ?z0 ?z1 ?z2 ?z3 ?z4 ?z5 ?z6 ?z7 ?z8 ?z9 ?z10 ?z11 ?z12 ?z13 ?z14 ?z15 ?z16
    (case a0 => k_is)
    (case l0 => k_is)
    (case c0 => k_is)
    (case k0 => k_is)
    (case a1 => k_is)
    (case l1 => k_is)
    (case c1 => k_is)
    (case k1 => k_is)
    (case a2 => k_is)
    (case l2 => k_is)
    (case c2 => k_is)
    (case k2 => k_is)
    (case a3 => k_is)
    (case l3 => k_is)
    (case c3 => k_is)
    (case k3 => k_is)
    (case a4 => k_is)
    (case l4 => k_is)
    (case c4 => k_is)
    (case k4 => k_is)
    (case a5 => k_is)
    (case l5 => k_is)
    (case c5 => k_is)
    (case k5 => k_is)
    (case a6 => k_is)
    (case l6 => k_is)
    (case c6 => k_is)
    (case k6 => k_is)
    (case a7 => k_is)
    (case l7 => k_is)
    (case c7 => k_is)
    (case k7 => k_is)
    (case a8 => k_is)
    (case l8 => k_is)
    (case c8 => k_is)
    (case k8 => k_is)
    (case a9 => k_is)
    (case l9 => k_is)
    (case c9 => k_is)
    (case k9 => k_is)
    (case a10 => k_is)
    (case l10 => k_is)
    (case c10 => k_is)
    (case k10 => k_is)
    (case a11 => k_is)
    (case l11 => k_is)
    (case c11 => k_is)
    (case k11 => k_is)
    (case a12 => k_is)
    (case l12 => k_is)
    (case c12 => k_is)
    (case k12 => k_is)
    (case a13 => k_is)
    (case l13 => k_is)
    (case c13 => k_is)
    (case k13 => k_is)
    (case a14 => k_is)
    (case l14 => k_is)
    (case c14 => k_is)
    (case k14 => k_is)
    (case a15 => k_is)
    (case l15 => k_is)
    (case c15 => k_is)
    (case k15 => k_is)
    (case a16 => k_is)
    (case l16 => k_is)
    (case c16 => k_is)
    (case k16 => k_is)
    (case a17 => k_is)
    (case l17 => k_is)
    (case c17 => k_is)
    (case k17 => k_is)
    (case a18 => k_is)
    (case l18 => k_is)
    (case c18 => k_is)
    (case k18 => k_is)
    (case a19 => k_is)
    (case l19 => k_is)
    (case c19 => k_is)
    (case k19 => k_is)
    (case a20 => k_is)
    (case l20 => k_is)
    (case c20 => k_is)
    (case k20 => k_is)
    (case a21 => k_is)
    (case l21 => k_is)
    (case c21 => k_is)
    (case k21 => k_is)
    (case a22 => k_is)
    (case l22 => k_is)
    (case c22 => k_is)
    (case k22 => k_is)
    (case a23 => k_is)
    (case l23 => k_is)
    (case c23 => k_is)
    (case k23 => k_is)
    (case a24 => k_is)
    (case l24 => k_is)
    (case c24 => k_is)
    (case k24 => k_is)
    (case a25 => k_is)
    (case l25 => k_is)
    (case c25 => k_is)
    (case k25 => k_is)
    (case a26 => k_is)
    (case l26 => k_is)
    (case c26 => k_is)
    (case k26 => k_is)
    (case a27 => k_is)
    (case l27 => k_is)
    (case c27 => k_is)
    (case k27 => k_is)
    (case a28 => k_is)
    (case l28 => k_is)
    (case c28 => k_is)
    (case k28 => k_is)
    (case a29 => k_is)
    (case l29 => k_is)
    (case c29 => k_is)
    (case k29 => k_is)
    (case a30 => k_is)
    (case l30 => k_is)
    (case c30 => k_is)
    (case k30 => k_is)
    (case a31 => k_is)
    (case l31 => k_is)
    (case c31 => k_is)
    (case k31 => k_is)
    (case a32 => k_is)
    (case l32 => k_is)
    (case c32 => k_is)
    (case k32 => k_is)
    (case a33 => k_is)
    (case l33 => k_is)
    (case c33 => k_is)
    (case k33 => k_is)
    (case a34 => k_is)
    (case l34 => k_is)
    (case c34 => k_is)
    (case k34 => k_is)
    (case a35 => k_is)
    (case l35 => k_is)
    (case c35 => k_is)
    (case k35 => k_is)
    (case a36 => k_is)
    (case l36 => k_is)
    (case c36 => k_is)
    (case k36 => k_is)
    (case a37 => k_is)
    (case l37 => k_is)
    (case c37 => k_is)
    (case k37 => k_is)
    (case a38 => k_is)
    (case l38 => k_is)
    (case c38 => k_is)
    (case k38 => k_is)
    (case a39 => k_is)
    (case l39 => k_is)
    (case c39 => k_is)
    (case k39 => k_is)
    (case a40 => k_is)
    (case l40 => k_is)
    (case c40 => k_is)
    (case k40 => k_is)
    (case a41 => k_is)
    (case l41 => k_is)
    (case c41 => k_is)
    (case k41 => k_is)
    (case a42 => k_is)
    (case l42 => k_is)
    (case c42 => k_is)
    (case k42 => k_is)
    (case a43 => k_is)
    (case l43 => k_is)
    (case c43 => k_is)
    (case k43 => k_is)
    (case a44 => k_is)
    (case l44 => k_is)
    (case c44 => k_is)
    (case k44 => k_is)
    (case a45 => k_is)
    (case l45 => k_is)
    (case c45 => k_is)
    (case k45 => k_is)
    (case a46 => k_is)
    (case l46 => k_is)
    (case c46 => k_is)
    (case k46 => k_is)
    (case a47 => k_is)
    (case l47 => k_is)
    (case c47 => k_is)
    (case k47 => k_is)
    (case a48 => k_is)
    (case l48 => k_is)
    (case c48 => k_is)
    (case k48 => k_is)
    (case a49 => k_is)
    (case l49 => k_is)
    (case c49 => k_is)
    (case k49 => k_is)
    (case a50 => k_is)
    (case l50 => k_is)
    (case c50 => k_is)
    (case k50 => k_is)
    (case a51 => k_is)
    (case l51 => k_is)
    (case c51 => k_is)
    (case k51 => k_is)
    (case a52 => k_is)
    (case l52 => k_is)
    (case c52 => k_is)
    (case k52 => k_is)
    (case a53 => k_is)
    (case l53 => k_is)
    (case c53 => k_is)
    (case k53 => k_is)
    (case aN0 => k_is)
    (case lN0 => k_is)
    (case kN0 => k_keys)
    (case vN0_0 => k_is)
    (case vN0_1 => k_is)
    (case vN0_2 => k_is)
    (case aN1 => k_is)
    (case lN1 => k_is)
    (case kN1 => k_keys)
    (case vN1_0 => k_is)
    (case vN1_1 => k_is)
    (case lw0 => first | rfl | decide | k_is)
    (case lw1 => first | rfl | decide | k_is)
    (case aE => k_is)
    (case lEA => k_is)
    (case lEB => k_is)
    (case z0 => k_is)
    (case z1 => k_is)
    (case z2 => k_is)
    (case z3 => k_is)
    (case z4 => k_is)
    (case z5 => k_is)
    (case z6 => k_is)
    (case z7 => k_is)
    (case z8 => k_is)
    (case z9 => k_is)
    (case z10 => k_is)
    (case z11 => k_is)
    (case z12 => k_is)
    (case z13 => k_is)
    (case z14 => k_is)
    (case z15 => k_is)
    (case z16 => k_is)
